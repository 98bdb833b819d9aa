/- Lemmas: S52, S53, S54. -/
import Derived.Test.YtonmkmaeohfjpaaBk06
import Derived.Test.YtonmkmaeohfjpaaBk17
import Derived.Test.YtonmkmaeohfjpaaBk20
import Derived.Test.YtonmkmaeohfjpaaBk21
import Derived.Test.YtonmkmaeohfjpaaBk22
set_option linter.unusedVariables false
set_option linter.unusedSimpArgs false
/- Sequence of the reference, on a register that is right. -/
namespace Go.Proofs.Ytonmkmaeohfjpaa
open Go Go.RowKit Go.Lib
set_option maxHeartbeats 16000000 in
set_option maxRecDepth 100000 in
theorem SequenceR_any (A B : Option Addr) (n c m d q : Nat) (T S : Nat → Int) (w : World) (hq : q ≤ 400) (hok : RegOk (m + 1) n T S) (hc : n ≤ c) (hd : m + 1 ≤ d) (hd9 : d ≤ 9223372036854775807) (hT : IntsAt w 0 A n T) (hS : IntsAt w 0 B (m + 1) S) :
    Calls Try.prog 27 #[.agg #[.int .i64 ((m : Int) + 1), .slice A n c, .slice B (m + 1) d], .int .i64 (q : Int)] w fun e w' => ∃ v, e = .returned v ∧ OwnInts w' w.heap.size v q (fun j => itS (m + 1) n T S j 0) ∧ Below w.heap.size w w' := by
  have HTT := hide hT
  have HSS := hide hS
  have HOK := hide hok
  have HNX := hide (fun k A B c d W (h1 : n ≤ c) (h2 : m + 1 ≤ d) (h3 : d ≤ 9223372036854775807) hI hJ => NextR_any A B n c m d T (itS (m + 1) n T S k) W (hok.it k) h1 h2 h3 hI hJ)
  have HSTP := hide (show ∀ k, nextS (m + 1) n T (itS (m + 1) n T S k) = itS (m + 1) n T S (k + 1) from fun _ => rfl)
  have H0 := hide (show itS (m + 1) n T S 0 = S from rfl)
  obtain ⟨I, hI⟩ : ∃ z, itS (m + 1) n T S = z := ⟨_, rfl⟩
  simp only [hI] at HNX HSTP H0 ⊢
  clear hI hT hS hok
  go_enter Try.func27, Try.ntmps27
  go_upto_region 1 with fail
  obtain ⟨b2, hb2⟩ : ∃ z, w.heap.size = z := ⟨_, rfl⟩
  obtain ⟨w1, hw1⟩ : ∃ z : World, z = w.alloc (.cells #[.int .i64 ((m : Int) + 1), .slice A n c, .slice B (m + 1) d] 24) := ⟨_, rfl⟩
  try rw [← hw1]
  have HX := hide (show Box w1 b2 24 #[.int .i64 ((m : Int) + 1), .slice A n c, .slice B (m + 1) d] by rw [hw1]; exact Box.made hb2.symm)
  have HB := hide (show Below b2 w w1 by rw [hw1, ← hb2]; (repeat (first | (with_reducible exact Below.refl _ _) | (with_reducible refine Go.below_drewN ?_ _) | (with_reducible refine Below.drew ?_) | (with_reducible refine Below.alloc ?_ (by first | exact Nat.le_refl _ | (simp; done) | (simp; omega) | omega) _) | (with_reducible refine Below.setCell ?_ (by first | exact Nat.le_refl _ | (simp; done) | (simp; omega) | omega) _))))
  try simp only [hb2]
  have hC := hide (HTT.out.below (show Below w.heap.size w w1 by rw [hb2]; exact HB.out))
  have hD := hide (H0.out ▸ HSS.out.below (show Below w.heap.size w w1 by rw [hb2]; exact HB.out) : IntsAt w1 0 B (m + 1) (I 0))
  clear hw1 HTT HSS
  go_wp2_with fail
  go_loopw [5, 6] (fun v z wr => ∃ (k : Nat) (C D : Option Addr) (f e : Nat), k ≤ q ∧ z = .int .i64 (k : Int) ∧ Hid (OwnInts wr (b2 + 1) v k (fun j => I j 0)) ∧ Hid (Box wr b2 24 #[.int .i64 ((m : Int) + 1), .slice C n f, .slice D (m + 1) e]) ∧ Hid (IntsAt wr 0 C n T) ∧ Hid (IntsAt wr 0 D (m + 1) (I k)) ∧ n ≤ f ∧ m + 1 ≤ e ∧ e ≤ 9223372036854775807 ∧ Hid (Below b2 w wr)) (fun _ z _ => q - (Go.RowKit.intOf z).toNat)
  case atStart => exact ⟨0, A, B, c, d, Nat.zero_le _, rfl, hide (OwnInts.nil_ _ _ _), HX, hC, hD, hc, hd, hd9, HB⟩
  case round =>
    clear HX hC hD HB
    obtain ⟨k, C, D, f, e, hk, rfl, HV, HX, HC, HD, hf, he, he9, HB⟩ := hrel
    obtain ⟨wA, rfl⟩ : ∃ x : World, x = wr := ⟨_, rfl⟩
    obtain ⟨Av, cv, rfl, hcv, -⟩ := HV.out.form
    by_cases hlt : k < q
    case neg =>
      obtain rfl : q = k := by omega
      have hltz : ¬ (q : Int) < (q : Int) := by omega
      clear HNX HSTP H0 HOK
      go_wp2_with fail
      go_ret
      have ho := ownS_weak (base' := b2) HV.out (by omega)
      subst hb2
      first | exact ⟨_, rfl, ho, HB.out⟩ | exact ⟨ho, HB.out⟩
    have hltz : (k : Int) < (q : Int) := by omega
    obtain ⟨c0, c1, c2, hlz⟩ := rec_cells HX.out
    go_wp2_with fail
    clear c0 c1 c2
    refine (HNX.out k C D f e _ hf he he9 HC.out HD.out).mono ?_
    rintro e_ w2 ⟨C2, f2, D2, e2, rfl, hc2, hd2, hf2, he2, he29, hb⟩
    have hvl : ∀ z, (Value.slice Av k cv).ownBlock = some z → b2 + 1 ≤ z ∧ z < wA.heap.size := fun z hz => ownV_at (w' := wA) (v' := Value.slice Av k cv) HV.out hz
    have HVL := hide hvl
    replace HV := hide (HV.out.below hb)
    replace HX := hide (HX.out.below hb)
    replace HB := hide (HB.out.trans (hb.mono (by omega)))
    rw [HSTP.out] at hd2
    have HC2 := hide hc2
    have HD2 := hide hd2
    have hs2 := hb.size
    clear hc2 hd2 hb hvl HC HD HNX HSTP H0
    go_upto_region 6 with fail
    obtain ⟨b8, hb8⟩ : ∃ z, w2.heap.size = z := ⟨_, rfl⟩
    obtain ⟨w3, hw3⟩ : ∃ z : World, z = w2.alloc (.cells #[.int .i64 ((m : Int) + 1), .slice C2 n f2, .slice D2 (m + 1) e2] 24) := ⟨_, rfl⟩
    try rw [← hw3]
    have HX8 := hide (show Box w3 b8 24 #[.int .i64 ((m : Int) + 1), .slice C2 n f2, .slice D2 (m + 1) e2] by rw [hw3]; exact Box.made hb8.symm)
    have hc3 : Below w2.heap.size w2 w3 := by rw [hw3]; (repeat (first | (with_reducible exact Below.refl _ _) | (with_reducible refine Go.below_drewN ?_ _) | (with_reducible refine Below.drew ?_) | (with_reducible refine Below.alloc ?_ (by first | exact Nat.le_refl _ | (simp; done) | (simp; omega) | omega) _) | (with_reducible refine Below.setCell ?_ (by first | exact Nat.le_refl _ | (simp; done) | (simp; omega) | omega) _)))
    have hX := HX.out.lt
    replace HV := hide (HV.out.below hc3)
    replace HX := hide (HX.out.below hc3)
    replace HC2 := hide (HC2.out.below hc3)
    replace HD2 := hide (HD2.out.below hc3)
    replace HB := hide (HB.out.trans (hc3.mono (by omega)))
    try simp only [hb8]
    clear hw3 hc3
    have h8 := HX8.out.lt
    obtain ⟨y, hy⟩ : ∃ z, I k 0 = z := ⟨_, rfl⟩
    try simp only [hy]
    have HY := hide hy
    clear hy
    refine wp_region_held_drew (S := fun w' => w'.cell? ⟨b8, 0, none⟩ = some (.int .i64 ((m : Int) + 1)) ∧ w'.cell? ⟨b8, 1, none⟩ = some (.slice C2 n f2) ∧ w'.cell? ⟨b8, 2, none⟩ = some (.slice D2 (m + 1) e2)) (by kernel_rfl) ⟨HX8.out.at_ 0, HX8.out.at_ 1, HX8.out.at_ 2⟩ (fun hHeld => ?_)
    obtain ⟨w_1, hw_1⟩ : ∃ q : World, q = w3.drew := ⟨_, rfl⟩
    rw [← hw_1] at hHeld ⊢
    have hc_1 : Below w3.heap.size w3 w_1 := by rw [hw_1]; exact (Below.refl _ _).drew
    clear hw_1
    replace HX8 := hide (HX8.out.below hc_1)
    replace HV := hide (HV.out.below hc_1)
    replace HX := hide (HX.out.below hc_1)
    replace HC2 := hide (HC2.out.below hc_1)
    replace HD2 := hide (HD2.out.below hc_1)
    replace HB := hide (HB.out.trans (hc_1.mono (by omega)))
    replace h8 := Nat.lt_of_lt_of_le h8 hc_1.size
    clear hc_1
    refine wpAnyH_take (i := 0) (oi := ⟨some 19, _, _, _, _, _⟩) (v := ?_) rfl (by kernel_rfl) (by kernel_rfl) (by kernel_rfl) (fun _ _ _ h => h) (Or.inl ⟨by rfl, ?_⟩) (by assumption) ?_
    rotate_left
    · (intro w' hSw; (try dsimp only at hSw); go_simp <;> (with_reducible rfl))
    try simp only [Act.put, List.setIfInBounds_toArray, List.set_cons_zero, List.set_cons_succ]
    refine wpAnyH_take (i := 1) (oi := ⟨some 20, _, _, _, _, _⟩) (v := ?_) rfl (by kernel_rfl) (by kernel_rfl) (by kernel_rfl) (fun _ _ _ h => h) (Or.inl ⟨by rfl, ?_⟩) (by assumption) ?_
    rotate_left
    · (intro w' hSw; (try dsimp only at hSw); go_simp <;> (with_reducible rfl))
    try simp only [Act.put, List.setIfInBounds_toArray, List.set_cons_zero, List.set_cons_succ]
    refine wpAnyH_take (i := 4) (oi := ⟨some 23, _, _, _, _, _⟩) (v := ?_) rfl (by kernel_rfl) (by kernel_rfl) (by kernel_rfl) (fun _ _ _ h => h) (Or.inl ⟨by rfl, ?_⟩) (by assumption) ?_
    rotate_left
    · (intro w' hSw; (try dsimp only at hSw); go_simp <;> (with_reducible rfl))
    try simp only [Act.put, List.setIfInBounds_toArray, List.set_cons_zero, List.set_cons_succ]
    refine wpAnyH_ready (rs := [2]) (by kernel_rfl) (by simp) ?_
    refine AllReadyH.cons (o := ⟨some 21, _, _, _, _, _⟩) rfl (fun K' hK => ?_) AllReadyH.nil
    go_simp
    obtain ⟨g9, hg9⟩ : ∃ z, w_1.heap.size = z := ⟨_, rfl⟩
    obtain ⟨w_2, hw_2⟩ : ∃ z : World, z = w_1.alloc (.cells #[.int .i64 y] 3) := ⟨_, rfl⟩
    try rw [← hw_2]
    have HP9 := hide (show Box w_2 g9 3 #[.int .i64 y] by rw [hw_2]; exact Box.made hg9.symm)
    have hc_2 : Below w_1.heap.size w_1 w_2 := by rw [hw_2]; exact (Below.refl _ _).alloc (Nat.le_refl _) _
    clear hw_2
    replace HX8 := hide (HX8.out.below hc_2)
    replace HV := hide (HV.out.below hc_2)
    replace HX := hide (HX.out.below hc_2)
    replace HC2 := hide (HC2.out.below hc_2)
    replace HD2 := hide (HD2.out.below hc_2)
    replace HB := hide (HB.out.trans (hc_2.mono (by omega)))
    replace h8 := Nat.lt_of_lt_of_le h8 hc_2.size
    clear hc_2
    try simp only [hg9]
    clear hg9
    refine hK.out _ _ ⟨HX8.out.at_ 0, HX8.out.at_ 1, HX8.out.at_ 2⟩ (fun hHeld => ?_)
    clear hK K'
    try simp only [Act.put, List.setIfInBounds_toArray, List.set_cons_zero, List.set_cons_succ]
    refine wpAnyH_ready (rs := [3]) (by kernel_rfl) (by simp) ?_
    refine AllReadyH.cons (o := ⟨some 22, _, _, _, _, _⟩) rfl (fun K' hK => ?_) AllReadyH.nil
    refine step_append_twoI _ rfl (.tmp 19) (.tmp 21) rfl (b2 + 1) 0 (.slice Av k cv) k _ rfl HV.out g9 1 1 (fun _ => y) rfl (fun i hi => ⟨g9, 0, rfl, Nat.zero_le _, HP9.out.lt, by obtain rfl : i = 0 := (by omega); exact HP9.out.at_ 0⟩) (by omega) (by omega) ?_
    intro v9 w_3 ho9 hgr9 hat9
    obtain ⟨A9, c9, rfl, hcv9, -⟩ := ho9.form
    have hfar : ∀ z, (Value.slice Av k cv).ownBlock = some z → z < wA.heap.size := fun z hz => (HVL.out z hz).2
    have hlo : ∀ z, (Value.slice Av k cv).ownBlock = some z → b2 + 1 ≤ z := fun z hz => (HVL.out z hz).1
    replace HX8 := hide (show Box _ b8 24 #[.int .i64 ((m : Int) + 1), .slice C2 n f2, .slice D2 (m + 1) e2] from (hgr9.block b8 h8 (fun e => by have := hfar _ e.symm; omega)).trans HX8.out)
    replace HX := hide (show Box _ b2 24 #[.int .i64 ((m : Int) + 1), .slice C n f, .slice D (m + 1) e] from (hgr9.block b2 HX.out.lt (fun e => by have := hlo _ e.symm; omega)).trans HX.out)
    replace HC2 := hide (HC2.out.grownI hgr9 (fun b o e => by obtain ⟨b', o', e', h5, -⟩ := HC2.out 0 (by have := HOK.out.some_; omega); rw [e] at e'; injection e' with e'; injection e' with e'; subst e'; intro hz; have := hfar _ hz; omega))
    replace HD2 := hide (HD2.out.grownI hgr9 (fun b o e => by obtain ⟨b', o', e', h5, -⟩ := HD2.out 0 (by omega); rw [e] at e'; injection e' with e'; injection e' with e'; subst e'; intro hz; have := hfar _ hz; omega))
    replace HB := hide (HB.out.grown hgr9 (by omega) (fun z e => by have := hlo _ e; omega))
    replace h8 := Nat.lt_of_lt_of_le h8 hgr9.size
    have HV2 := hide (OwnInts.congr (G := fun j => I j 0) ho9 fun i hi => by
      unfold catF
      by_cases e : i < k
      · rw [if_pos e]
      · rw [if_neg e, show i = k by omega, HY.out])
    clear hfar hlo ho9 hgr9 hat9 HV HP9
    refine hK.out _ _ ⟨HX8.out.at_ 0, HX8.out.at_ 1, HX8.out.at_ 2⟩ (fun hHeld => ?_)
    clear hK K'
    try simp only [Act.put, List.setIfInBounds_toArray, List.set_cons_zero, List.set_cons_succ]
    refine wpAnyH_take (i := 5) (oi := ⟨some 5, _, _, _, _, _⟩) (v := ?_) rfl (by kernel_rfl) (by kernel_rfl) (by kernel_rfl) (fun _ _ _ h => h) (Or.inl ⟨by rfl, ?_⟩) (by assumption) ?_
    rotate_left
    · (intro w' hSw; (try dsimp only at hSw); go_simp <;> (with_reducible rfl))
    try simp only [Act.put, List.setIfInBounds_toArray, List.set_cons_zero, List.set_cons_succ]
    refine wpAnyH_ready (rs := [6]) (by kernel_rfl) (by simp) ?_
    refine AllReadyH.cons (o := ⟨none, _, _, _, _, _⟩) rfl (fun K' hK => ?_) AllReadyH.nil
    obtain ⟨x0, x1, x2, f0, f1, ff2, hlx⟩ := HX.out.r3
    go_simp
    clear x0 x1 x2 f0 f1 ff2 hlx
    have hfC : ∀ b o, C2 = some ⟨b, o, none⟩ → b ≠ b2 := fun b o e => by obtain ⟨b', o', e', h5, -⟩ := HC2.out 0 (by have := HOK.out.some_; omega); rw [e] at e'; injection e' with e'; injection e' with e'; omega
    have hfD : ∀ b o, D2 = some ⟨b, o, none⟩ → b ≠ b2 := fun b o e => by obtain ⟨b', o', e', h5, -⟩ := HD2.out 0 (by omega); rw [e] at e'; injection e' with e'; injection e' with e'; omega
    replace HC2 := hide (intsOther (p := ⟨b2, 2, none⟩) (intsOther (p := ⟨b2, 1, none⟩) (intsOther (p := ⟨b2, 0, none⟩) HC2.out hfC (.int .i64 ((m : Int) + 1))) hfC (.slice C2 n f2)) hfC (.slice D2 (m + 1) e2))
    replace HD2 := hide (intsOther (p := ⟨b2, 2, none⟩) (intsOther (p := ⟨b2, 1, none⟩) (intsOther (p := ⟨b2, 0, none⟩) HD2.out hfD (.int .i64 ((m : Int) + 1))) hfD (.slice C2 n f2)) hfD (.slice D2 (m + 1) e2))
    have hv2 : ∀ (i : Nat), (Value.slice A9 (k + 1) c9).ownBlock ≠ some b2 := fun _ e => by have := (ownV_at (w' := wA) (v' := Value.slice A9 (k + 1) c9) HV2.out e).1; omega
    replace HV2 := hide (ownV_other (o := 2) (ownV_other (o := 1) (ownV_other (o := 0) HV2.out (hv2 0) (.int .i64 ((m : Int) + 1))) (hv2 0) (.slice C2 n f2)) (hv2 0) (.slice D2 (m + 1) e2))
    replace HX8 := hide (((HX8.out.other (p := ⟨b2, 0, none⟩) (by show b8 ≠ b2; omega) (.int .i64 ((m : Int) + 1))).other (p := ⟨b2, 1, none⟩) (by show b8 ≠ b2; omega) (.slice C2 n f2)).other (p := ⟨b2, 2, none⟩) (by show b8 ≠ b2; omega) (.slice D2 (m + 1) e2))
    replace HX := hide (HX.out.r3putAll (.int .i64 ((m : Int) + 1)) (.slice C2 n f2) (.slice D2 (m + 1) e2))
    replace HB := hide (((HB.out.setCell (p := ⟨b2, 0, none⟩) (Nat.le_refl _) (.int .i64 ((m : Int) + 1))).setCell (p := ⟨b2, 1, none⟩) (Nat.le_refl _) (.slice C2 n f2)).setCell (p := ⟨b2, 2, none⟩) (Nat.le_refl _) (.slice D2 (m + 1) e2))
    obtain ⟨w_4, hw_4⟩ : ∃ z : World, ((w_3.setCell ⟨b2, 0, none⟩ (.int .i64 ((m : Int) + 1))).setCell ⟨b2, 1, none⟩ (.slice C2 n f2)).setCell ⟨b2, 2, none⟩ (.slice D2 (m + 1) e2) = z := ⟨_, rfl⟩
    rw [hw_4] at HX8 HX HB HC2 HD2 HV2 ⊢
    clear hw_4
    refine hK.out _ _ ⟨HX8.out.at_ 0, HX8.out.at_ 1, HX8.out.at_ 2⟩ (fun hHeld => ?_)
    clear hK K'
    try simp only [Act.put, List.setIfInBounds_toArray, List.set_cons_zero, List.set_cons_succ]
    refine wpAnyH_done (by kernel_rfl) ?_ _
    clear hHeld
    go_wp2_with fail
    go_roundw
    case rel => exact ⟨k + 1, C2, D2, f2, e2, by omega, by go_num, HV2, HX, hide (HC2.out.weak (Nat.zero_le _)), hide (HD2.out.weak (Nat.zero_le _)), hf2, he2, he29, HB⟩
    case measure => simp [Go.RowKit.intOf]; omega
end Go.Proofs.Ytonmkmaeohfjpaa
/- Scrambled of the reference, on a register and bits that are right. -/
namespace Go.Proofs.Ytonmkmaeohfjpaa
open Go Go.RowKit Go.Lib
/-- A bit of a list that is scrambled. -/
def mixF (I : Nat → Nat → Int) (X : Nat → Int) (j : Nat) : Int := (I j 0 + X j) % 2
set_option maxHeartbeats 16000000 in
set_option maxRecDepth 100000 in
theorem ScrambledR_any (A B C : Option Addr) (n c m d q e : Nat) (T S X : Nat → Int) (w : World) (hq : q ≤ 400) (hq0 : 0 < q) (hok : RegOk (m + 1) n T S) (hc : n ≤ c) (hd : m + 1 ≤ d) (hd9 : d ≤ 9223372036854775807) (hX : ∀ j, j < q → IsBit (X j)) (hT : IntsAt w 0 A n T) (hS : IntsAt w 0 B (m + 1) S) (hI : IntsAt w 0 C q X) :
    Calls Try.prog 35 #[.agg #[.int .i64 ((m : Int) + 1), .slice A n c, .slice B (m + 1) d], .slice C q e] w fun e w' => ∃ v, e = .returned v ∧ OwnInts w' w.heap.size v q (mixF (itS (m + 1) n T S) X) ∧ Below w.heap.size w w' := by
  have HTT := hide hT
  have HSS := hide hS
  have HII := hide hI
  have HXB := hide hX
  have HIB := hide (fun k => (hok.it k).bits 0 (by have := hok.two; omega))
  have HSQ := hide (fun W h1 h2 => SequenceR_any A B n c m d q T S W hq hok hc hd hd9 h1 h2)
  obtain ⟨I, hIe⟩ : ∃ z, itS (m + 1) n T S = z := ⟨_, rfl⟩
  simp only [hIe] at HSQ HIB ⊢
  clear hIe hT hS hI hX hok
  go_enter Try.func35, Try.ntmps35
  go_upto_region 1 with fail
  obtain ⟨b2, hb2⟩ : ∃ z, w.heap.size = z := ⟨_, rfl⟩
  obtain ⟨w1, hw1⟩ : ∃ z : World, z = w.alloc (.cells #[.int .i64 ((m : Int) + 1), .slice A n c, .slice B (m + 1) d] 24) := ⟨_, rfl⟩
  try rw [← hw1]
  have HX := hide (show Box w1 b2 24 #[.int .i64 ((m : Int) + 1), .slice A n c, .slice B (m + 1) d] by rw [hw1]; exact Box.made hb2.symm)
  have HB := hide (show Below w.heap.size w w1 by rw [hw1]; (repeat (first | (with_reducible exact Below.refl _ _) | (with_reducible refine Go.below_drewN ?_ _) | (with_reducible refine Below.drew ?_) | (with_reducible refine Below.alloc ?_ (by first | exact Nat.le_refl _ | (simp; done) | (simp; omega) | omega) _) | (with_reducible refine Below.setCell ?_ (by first | exact Nat.le_refl _ | (simp; done) | (simp; omega) | omega) _))))
  try simp only [hb2]
  clear hw1
  obtain ⟨c0, c1, c2, hlz⟩ := rec_cells HX.out
  go_wp2_with fail
  clear c0 c1 c2
  refine (HSQ.out _ (HTT.out.below HB.out) (HSS.out.below HB.out)).mono ?_
  rintro e_ w2 ⟨v, rfl, ho, hb⟩
  have HV := hide (show OwnInts w2 w.heap.size v q (fun j => if j < 0 then mixF I X j else I j 0) from (ownS_weak ho HB.out.size).congr fun j _ => (if_neg (Nat.not_lt_zero j)).symm)
  replace HB := hide (HB.out.trans (hb.mono HB.out.size))
  clear ho hb HX hlz HSQ
  obtain ⟨gV, cV, rfl, hcv, -⟩ := own_form HV.out hq0
  go_wp2_with fail
  go_loopw [6] (fun z wr => ∃ k : Nat, k ≤ q ∧ z = .int .i64 (k : Int) ∧ Hid (OwnInts wr w.heap.size (.slice (some ⟨gV, 0, none⟩) q cV) q (fun j => if j < k then mixF I X j else I j 0)) ∧ Hid (Below w.heap.size w wr)) (fun z _ => q - (Go.RowKit.intOf z).toNat)
  case atStart => exact ⟨0, Nat.zero_le _, rfl, HV, HB⟩
  case round =>
    clear HV HB
    obtain ⟨k, hk, rfl, HV, HB⟩ := hrel
    obtain ⟨wA, rfl⟩ : ∃ x : World, x = wr := ⟨_, rfl⟩
    by_cases hlt : k < q
    case neg =>
      obtain rfl : q = k := by omega
      have hltz : ¬ (q : Int) < (q : Int) := by omega
      go_wp2_with fail
      go_ret
      have ho := OwnInts.congr (G := mixF I X) HV.out fun j hj => if_pos hj
      subst hb2
      exact ⟨.slice (some ⟨gV, 0, none⟩) q cV, rfl, ho, HB.out⟩
    have hltz : (k : Int) < (q : Int) := by omega
    obtain ⟨bC, oC, rfl⟩ := intsAt_some HII.out hq0
    have hxb := HXB.out k hlt
    have hib := HIB.out k
    have HMX := hide (show mixF I X k = (I k 0 + X k) % 2 from rfl)
    have HYC := hide (fun W (h : Below w.heap.size w W) => intsAt_cellK (HII.out.below h) hlt)
    have hset := fun W (h : OwnInts W w.heap.size (.slice (some ⟨gV, 0, none⟩) q cV) q (fun j => if j < k then mixF I X j else I j 0)) => (h.set_ k (mixF I X k)).congr (G := fun j => if j < k + 1 then mixF I X j else I j 0) fun j hj => by
      unfold setF
      show (if j = k then mixF I X k else if j < k then mixF I X j else I j 0) = _
      by_cases e : j = k
      · subst e; rw [if_pos rfl, if_pos (by omega)]
      · rw [if_neg e]
        by_cases h : j < k
        · rw [if_pos h, if_pos (by omega)]
        · rw [if_neg h, if_neg (by omega)]
    have HSET := hide hset
    clear hset
    have HLC := hide (fun W (h : OwnInts W w.heap.size (.slice (some ⟨gV, 0, none⟩) q cV) q (fun j => if j < k then mixF I X j else I j 0)) => (⟨by have := h.cellAt hlt; rwa [if_neg (Nat.lt_irrefl k)] at this, h.frozen k, (ownV_at (w' := w) (v' := Value.slice none 0 0) h rfl).2⟩ : W.cell? ⟨gV, k, none⟩ = some (.int .i64 (I k 0)) ∧ W.frozen? ⟨gV, k, none⟩ = false ∧ gV < W.heap.size))
    obtain ⟨x, hx⟩ : ∃ z, X k = z := ⟨_, rfl⟩
    obtain ⟨y, hy⟩ : ∃ z, I k 0 = z := ⟨_, rfl⟩
    rw [hx] at HYC HMX hxb
    rw [hy] at HLC HMX hib
    have hx2 := hxb.le
    have hy2 := hib.le
    have q1 : IntKind.i64.wrap (y + x) = y + x := IntWalk.i64_in _ (by omega)
    have q2 : (y + x).tmod 2 = (y + x) % 2 := by rw [Int.tmod_eq_emod_of_nonneg (by omega)]
    obtain ⟨u, hu⟩ : ∃ z, (y + x) % 2 = z := ⟨_, rfl⟩
    rw [hu] at q2 HMX
    skip
    obtain ⟨um, hum⟩ : ∃ z, mixF I X k = z := ⟨_, rfl⟩
    have hum2 : um = u := hum.symm.trans HMX.out
    subst hum2
    simp only [hum] at HSET
    clear hx hy hum hxb hib HMX
    have hlo : w.heap.size ≤ gV := (ownV_at (w' := w) (v' := Value.slice none 0 0) HV.out rfl).1
    go_upto_region 5 with fail
    refine wp_region_held_drew (S := fun w' => w'.cell? ⟨bC, oC + k, none⟩ = some (.int .i64 x)) (by kernel_rfl) (HYC.out _ HB.out.drew) (fun hHeld => ?_)
    obtain ⟨w_1, hw_1⟩ : ∃ q : World, q = wA.drew := ⟨_, rfl⟩
    rw [← hw_1] at hHeld ⊢
    have hc_1 : Below wA.heap.size wA w_1 := by rw [hw_1]; exact (Below.refl _ _).drew
    clear hw_1
    replace HV := hide (HV.out.below hc_1)
    replace HB := hide (HB.out.trans (hc_1.mono HB.out.size))
    clear hc_1
    refine wpAnyH_take (i := 0) (oi := ⟨some 17, _, _, _, _, _⟩) (v := ?_) rfl (by kernel_rfl) (by kernel_rfl) (by kernel_rfl) (fun _ _ _ h => h) (Or.inl ⟨by rfl, ?_⟩) (by assumption) ?_
    rotate_left
    · (intro w' hSw; (try dsimp only at hSw); go_simp <;> (with_reducible rfl))
    try simp only [Act.put, List.setIfInBounds_toArray, List.set_cons_zero, List.set_cons_succ]
    refine wpAnyH_take (i := 1) (oi := ⟨some 18, _, _, _, _, _⟩) (v := ?_) rfl (by kernel_rfl) (by kernel_rfl) (by kernel_rfl) (fun _ _ _ h => h) (Or.inl ⟨by rfl, ?_⟩) (by assumption) ?_
    rotate_left
    · (intro w' hSw; (try dsimp only at hSw); go_simp <;> (with_reducible rfl))
    try simp only [Act.put, List.setIfInBounds_toArray, List.set_cons_zero, List.set_cons_succ]
    refine wpAnyH_take (i := 2) (oi := ⟨some 19, _, _, _, _, _⟩) (v := ?_) rfl (by kernel_rfl) (by kernel_rfl) (by kernel_rfl) (fun _ _ _ h => h) (Or.inl ⟨by rfl, ?_⟩) (by assumption) ?_
    rotate_left
    · (intro w' hSw; (try dsimp only at hSw); go_simp <;> (with_reducible rfl))
    try simp only [Act.put, List.setIfInBounds_toArray, List.set_cons_zero, List.set_cons_succ]
    refine wpAnyH_take (i := 3) (oi := ⟨some 20, _, _, _, _, _⟩) (v := ?_) rfl (by kernel_rfl) (by kernel_rfl) (by kernel_rfl) (fun _ _ _ h => h) (Or.inl ⟨by rfl, ?_⟩) (by assumption) ?_
    rotate_left
    · (intro w' hSw; (try dsimp only at hSw); go_simp <;> (with_reducible rfl))
    try simp only [Act.put, List.setIfInBounds_toArray, List.set_cons_zero, List.set_cons_succ]
    refine wpAnyH_take (i := 4) (oi := ⟨some 21, _, _, _, _, _⟩) (v := ?_) rfl (by kernel_rfl) (by kernel_rfl) (by kernel_rfl) (fun _ _ _ h => h) (Or.inl ⟨by rfl, ?_⟩) (by assumption) ?_
    rotate_left
    · (intro w' hSw; (try dsimp only at hSw); go_simp <;> (with_reducible rfl))
    try simp only [Act.put, List.setIfInBounds_toArray, List.set_cons_zero, List.set_cons_succ]
    refine wpAnyH_take (i := 6) (oi := ⟨some 23, _, _, _, _, _⟩) (v := ?_) rfl (by kernel_rfl) (by kernel_rfl) (by kernel_rfl) (fun _ _ _ h => h) (Or.inl ⟨by rfl, ?_⟩) (by assumption) ?_
    rotate_left
    · (intro w' hSw; (try dsimp only at hSw); go_simp <;> (with_reducible rfl))
    try simp only [Act.put, List.setIfInBounds_toArray, List.set_cons_zero, List.set_cons_succ]
    refine wpAnyH_take (i := 7) (oi := ⟨some 24, _, _, _, _, _⟩) (v := ?_) rfl (by kernel_rfl) (by kernel_rfl) (by kernel_rfl) (fun _ _ _ h => h) (Or.inl ⟨by rfl, ?_⟩) (by assumption) ?_
    rotate_left
    · (intro w' hSw; (try dsimp only at hSw); go_simp <;> (with_reducible rfl))
    try simp only [Act.put, List.setIfInBounds_toArray, List.set_cons_zero, List.set_cons_succ]
    refine wpAnyH_take (i := 8) (oi := ⟨some 25, _, _, _, _, _⟩) (v := ?_) rfl (by kernel_rfl) (by kernel_rfl) (by kernel_rfl) (fun _ _ _ h => h) (Or.inl ⟨by rfl, ?_⟩) (by assumption) ?_
    rotate_left
    · (intro w' hSw; (try dsimp only at hSw); go_simp <;> (with_reducible rfl))
    try simp only [Act.put, List.setIfInBounds_toArray, List.set_cons_zero, List.set_cons_succ]
    refine wpAnyH_take (i := 9) (oi := ⟨some 26, _, _, _, _, _⟩) (v := ?_) rfl (by kernel_rfl) (by kernel_rfl) (by kernel_rfl) (fun _ _ _ h => h) (Or.inl ⟨by rfl, ?_⟩) (by assumption) ?_
    rotate_left
    · (intro w' hSw; (try dsimp only at hSw); go_simp <;> (with_reducible rfl))
    try simp only [Act.put, List.setIfInBounds_toArray, List.set_cons_zero, List.set_cons_succ]
    refine wpAnyH_ready (rs := [5]) (by kernel_rfl) (by simp) ?_
    refine AllReadyH.cons (o := ⟨some 22, _, _, _, _, _⟩) rfl (fun K' hK => ?_) AllReadyH.nil
    obtain ⟨y0, f0, hly⟩ := HLC.out _ HV.out
    go_simp
    clear y0 f0 hly
    refine hK.out _ _ (HYC.out _ HB.out) (fun hHeld => ?_)
    clear hK K'
    try simp only [Act.put, List.setIfInBounds_toArray, List.set_cons_zero, List.set_cons_succ]
    refine wpAnyH_take (i := 10) (oi := ⟨some 27, _, _, _, _, _⟩) (v := ?_) rfl (by kernel_rfl) (by kernel_rfl) (by kernel_rfl) (fun _ _ _ h => h) (Or.inl ⟨by rfl, ?_⟩) (by assumption) ?_
    rotate_left
    · (intro w' hSw; (try dsimp only at hSw); go_simp <;> (with_reducible rfl))
    try simp only [Act.put, List.setIfInBounds_toArray, List.set_cons_zero, List.set_cons_succ]
    refine wpAnyH_take (i := 11) (oi := ⟨some 28, _, _, _, _, _⟩) (v := ?_) rfl (by kernel_rfl) (by kernel_rfl) (by kernel_rfl) (fun _ _ _ h => h) (Or.inl ⟨by rfl, ?_⟩) (by assumption) ?_
    rotate_left
    · (intro w' hSw; (try dsimp only at hSw); go_simp <;> (with_reducible rfl))
    try simp only [Act.put, List.setIfInBounds_toArray, List.set_cons_zero, List.set_cons_succ]
    refine wpAnyH_take (i := 12) (oi := ⟨some 29, _, _, _, _, _⟩) (v := ?_) rfl (by kernel_rfl) (by kernel_rfl) (by kernel_rfl) (fun _ _ _ h => h) (Or.inl ⟨by rfl, ?_⟩) (by assumption) ?_
    rotate_left
    · (intro w' hSw; (try dsimp only at hSw); go_simp <;> (with_reducible rfl))
    try simp only [Act.put, List.setIfInBounds_toArray, List.set_cons_zero, List.set_cons_succ]
    refine wpAnyH_ready (rs := [13]) (by kernel_rfl) (by simp) ?_
    refine AllReadyH.cons (o := ⟨none, _, _, _, _, _⟩) rfl (fun K' hK => ?_) AllReadyH.nil
    obtain ⟨y0, f0, hly⟩ := HLC.out _ HV.out
    go_simp
    clear y0 f0 hly
    have HV2 := hide (HSET.out _ HV.out)
    replace HB := hide (HB.out.setCell (p := ⟨gV, k, none⟩) hlo (.int .i64 um))
    obtain ⟨w_2, hw_2⟩ : ∃ z : World, w_1.setCell ⟨gV, k, none⟩ (.int .i64 um) = z := ⟨_, rfl⟩
    rw [hw_2] at HV2 HB ⊢
    clear hw_2 HV
    refine hK.out _ _ (HYC.out _ HB.out) (fun hHeld => ?_)
    clear hK K'
    try simp only [Act.put, List.setIfInBounds_toArray, List.set_cons_zero, List.set_cons_succ]
    refine wpAnyH_done (by kernel_rfl) ?_ _
    clear hHeld HLC HSET HYC
    go_wp2_with fail
    go_roundw
    case rel => exact ⟨k + 1, by omega, by go_num, HV2, HB⟩
    case measure => simp [Go.RowKit.intOf]; omega
end Go.Proofs.Ytonmkmaeohfjpaa
/- The walk of SymbolScrambles. -/
namespace Go.Proofs.Ytonmkmaeohfjpaa
open Go Go.RowKit Go.Lib Ieee
theorem mix_again {a b : Int} (ha : IsBit a) (hb : IsBit b) : xor1 a (xor1 a b) = b := by
  rcases ha with rfl | rfl <;> rcases hb with rfl | rfl <;> decide
set_option maxHeartbeats 32000000 in
set_option maxRecDepth 100000 in
theorem symbolScrambles_walk (L : Int) (A B C : Option Addr) (n c m d q r : Nat) (T S X : Nat → Int) (w : World) (hn : n ≤ 9223372036854775807) (hm : m ≤ 9223372036854775807) (hq : q ≤ 9223372036854775807) (hnc : n ≤ c) (hmd : m ≤ d) (hd9 : d ≤ 9223372036854775807) (hT : IntsAt w 0 A n T) (hS : IntsAt w 0 B m S) (hX : IntsAt w 0 C q X) :
    Calls Try.prog 5 #[.agg #[.int .i64 L, .slice A n c, .slice B m d], .slice C q r] w fun e w' => e = .returned (.bool true) ∧ Below w.heap.size w w' := by
  have HB := hide (Below.refl w.heap.size w)
  have HTT := hide hT
  have HSS := hide hS
  have HXX := hide hX
  clear hT hS hX
  have HSH := hide (fun W => short_any L A B n c m d W)
  have HFW := hide (fun W => few_any (q : Int) 40 400 W (by decide))
  have HSC := hide (fun (A B C : Option Addr) (c d r : Nat) (X : Nat → Int) W (h1 : n ≤ 12) (h2 : m ≤ 12) (h3 : q ≤ 402) a b e => Scrambled_any L A B C n c m d q r T S X W (by omega) (by omega) (by omega) a b e)
  go_enter Try.func5, Try.ntmps5
  go_upto_region 1 with fail
  obtain ⟨v1, hv1⟩ : ∃ z : World, z = (w.alloc (.cells #[.int .i64 L, .slice A n c, .slice B m d] 24)) := ⟨_, rfl⟩
  try rw [← hv1]
  have HX := hide (show Box v1 (w.heap.size) 24 #[.int .i64 L, .slice A n c, .slice B m d] by rw [hv1]; exact Box.made rfl)
  have hb1 : Below w.heap.size w v1 := by rw [hv1]; (repeat (first | (with_reducible exact Below.refl _ _) | (with_reducible refine Go.below_drewN ?_ _) | (with_reducible refine Below.drew ?_) | (with_reducible refine Below.alloc ?_ (by first | exact Nat.le_refl _ | (simp; done) | (simp; omega) | omega) _) | (with_reducible refine Below.setCell ?_ (by first | exact Nat.le_refl _ | (simp; done) | (simp; omega) | omega) _)))
  clear hv1
  replace HTT := hide (HTT.out.below hb1)
  replace HSS := hide (HSS.out.below hb1)
  replace HXX := hide (HXX.out.below hb1)
  replace HB := hide (HB.out.trans (hb1.mono HB.out.size))
  clear hb1
  obtain ⟨b1, eb1⟩ : ∃ z, w.heap.size = z := ⟨_, rfl⟩
  simp only [eb1] at HX
  try simp only [eb1]
  clear eb1
  go_wp2_with fail
  refine (awakeS_any _).mono ?_
  rintro e_ v2 ⟨rfl, hb2⟩
  replace HTT := hide (HTT.out.below hb2)
  replace HSS := hide (HSS.out.below hb2)
  replace HXX := hide (HXX.out.below hb2)
  replace HX := hide (HX.out.below hb2)
  replace HB := hide (HB.out.trans (hb2.mono HB.out.size))
  clear hb2
  obtain ⟨l0_0, l0_1, l0_2, l0_z⟩ := rec_cells HX.out
  go_wp2_with fail
  clear l0_0 l0_1 l0_2 l0_z
  by_cases h12 : n ≤ 12 ∧ m ≤ 12
  case neg =>
    have hs : (decide ((n : Int) ≤ 12) && decide ((m : Int) ≤ 12)) = false := by simp; omega
    rw [hs] at HSH
    clear hs
    refine (HSH.out _).mono ?_
    rintro e_ v3 ⟨rfl, hb3⟩
    replace HTT := hide (HTT.out.below hb3)
    replace HSS := hide (HSS.out.below hb3)
    replace HXX := hide (HXX.out.below hb3)
    replace HX := hide (HX.out.below hb3)
    replace HB := hide (HB.out.trans (hb3.mono HB.out.size))
    clear hb3
    go_wp2_with fail
    go_ret
    exact ⟨rfl, HB.out⟩
  have hs : (decide ((n : Int) ≤ 12) && decide ((m : Int) ≤ 12)) = true := by simp; omega
  rw [hs] at HSH
  clear hs
  refine (HSH.out _).mono ?_
  rintro e_ v4 ⟨rfl, hb4⟩
  replace HTT := hide (HTT.out.below hb4)
  replace HSS := hide (HSS.out.below hb4)
  replace HXX := hide (HXX.out.below hb4)
  replace HX := hide (HX.out.below hb4)
  replace HB := hide (HB.out.trans (hb4.mono HB.out.size))
  clear hb4
  go_wp2_with fail
  by_cases hf : q ≤ 40 ∨ (400 < q ∧ q ≤ 402)
  case neg =>
    have hs : (decide ((q : Int) ≤ 40) || (decide ((q : Int) > 400) && decide ((q : Int) ≤ 400 + 2))) = false := by simp; omega
    rw [hs] at HFW
    clear hs
    refine (HFW.out _).mono ?_
    rintro e_ v_ ⟨rfl, rfl⟩
    go_wp2_with fail
    go_ret
    exact ⟨rfl, HB.out⟩
  have hs : (decide ((q : Int) ≤ 40) || (decide ((q : Int) > 400) && decide ((q : Int) ≤ 400 + 2))) = true := by simp; omega
  rw [hs] at HFW
  clear hs
  refine (HFW.out _).mono ?_
  rintro e_ v_ ⟨rfl, rfl⟩
  obtain ⟨l0_0, l0_1, l0_2, l0_z⟩ := rec_cells HX.out
  go_wp2_with fail
  clear l0_0 l0_1 l0_2 l0_z
  obtain ⟨h12a, h12b⟩ := h12
  have hq402 : q ≤ 402 := by omega
  have HCO := hide (fun W h1 h2 => CopyRegister_any L A B n c m d T S W (by omega) (by omega) h1 h2)
  have HCI := hide (fun W h => copyInts_own C q r X W (by omega) h)
  refine (HCO.out _ HTT.out HSS.out).mono ?_
  rintro e_ v5 ⟨C1, f1, D1, k1, rfl, ho1, ho2, hb5, hcd⟩
  replace HTT := hide (HTT.out.below hb5)
  replace HSS := hide (HSS.out.below hb5)
  replace HXX := hide (HXX.out.below hb5)
  replace HX := hide (HX.out.below hb5)
  replace HB := hide (HB.out.trans (hb5.mono HB.out.size))
  clear hb5
  have HC1 := hide ho1
  clear ho1
  have HD1 := hide ho2
  clear ho2
  go_wp2_with fail
  clear hcd
  skip
  refine (HCI.out _ HXX.out).mono ?_
  rintro e_ v7 ⟨vx, rfl, hox, hb7⟩
  obtain ⟨Ax, ax, rfl, -, -⟩ := hox.form
  replace HTT := hide (HTT.out.below hb7)
  replace HSS := hide (HSS.out.below hb7)
  replace HXX := hide (HXX.out.below hb7)
  replace HX := hide (HX.out.below hb7)
  replace HC1 := hide (HC1.out.below hb7)
  replace HD1 := hide (HD1.out.below hb7)
  replace HB := hide (HB.out.trans (hb7.mono HB.out.size))
  clear hb7
  have HOx := hide hox
  clear hox
  go_wp2_with fail
  obtain ⟨qa1, qc1, e1, -, hi1⟩ := HC1.out.form
  injection e1 with e1 _ _
  subst e1
  obtain ⟨qa2, qc2, e2, -, hi2⟩ := HD1.out.form
  injection e2 with e2 _ _
  subst e2
  obtain ⟨qa3, qc3, e3, -, hi3⟩ := HOx.out.form
  injection e3 with e3 _ _
  subst e3
  refine (HSC.out _ _ _ f1 k1 ax X _ h12a h12b hq402 (hi1.weak (Nat.zero_le _)) (hi2.weak (Nat.zero_le _)) (hi3.weak (Nat.zero_le _))).mono ?_
  rintro e_ v8 ⟨v, rfl, hr1, hr2, hb8⟩
  clear hi1 hi2 hi3
  clear HC1 HD1 HOx
  skip
  replace HTT := hide (HTT.out.below hb8)
  replace HSS := hide (HSS.out.below hb8)
  replace HXX := hide (HXX.out.below hb8)
  replace HX := hide (HX.out.below hb8)
  replace HB := hide (HB.out.trans (hb8.mono HB.out.size))
  clear hb8
  have HR1 := hide hr1
  have HR2 := hide hr2
  clear hr1 hr2
  have HSE := hide (show scrE L n T m S q X = orS (regE L n T m S) (bitE q X 400) from rfl)
  have HCR := hide (fun W (h1 : IntsAt W 0 A n T) (h2 : IntsAt W 0 B m S) => CheckRegisterR_any L A B n c m d T S W (by omega) (by omega) h1 h2)
  have HBE := hide (fun W (h : IntsAt W 0 C q X) => BitsErr_any C q r X W (by omega) h)
  obtain ⟨E, hE⟩ : ∃ z, scrE L n T m S q X = z := ⟨_, rfl⟩
  rw [hE] at HR1 HR2 HSE ⊢
  obtain ⟨e1, he1⟩ : ∃ z, regE L n T m S = z := ⟨_, rfl⟩
  obtain ⟨e2, he2⟩ : ∃ z, bitE q X 400 = z := ⟨_, rfl⟩
  rw [he1, he2] at HSE
  rw [he1] at HCR
  rw [he2] at HBE
  clear hE
  by_cases hE0 : E = 0
  case neg =>
    obtain rfl := HR2.out hE0
    have HNE := hide hE0
    clear HR1 HR2
    obtain ⟨l0_0, l0_1, l0_2, l0_z⟩ := rec_cells HX.out
    go_wp2_with fail
    clear l0_0 l0_1 l0_2 l0_z
    by_cases hz1 : e1 = 0
    case neg =>
      have hEE : E = e1 := HSE.out.trans (if_neg hz1)
      have t1 : (e1 == 0) = false := by simpa using hz1
      have t2 : (e1 != 0) = true := by simpa using hz1
      have t3 : (E == e1) = true := by simpa using hEE
      clear hEE he1 he2 hE0
      refine (HCR.out _ HTT.out HSS.out).mono ?_
      rintro e_ v9 ⟨rfl, hb9⟩
      replace HTT := hide (HTT.out.below hb9)
      replace HSS := hide (HSS.out.below hb9)
      replace HXX := hide (HXX.out.below hb9)
      replace HX := hide (HX.out.below hb9)
      replace HB := hide (HB.out.trans (hb9.mono HB.out.size))
      clear hb9
      go_wp2_with fail
      go_ret
      exact ⟨rfl, HB.out⟩
    subst hz1
    have hEE : E = e2 := HSE.out.trans (if_pos rfl)
    have hz2 : e2 ≠ 0 := by rw [← hEE]; exact HNE.out
    have t2 : (e2 != 0) = true := by simpa using hz2
    have t3 : (E == e2) = true := by simpa using hEE
    clear hEE he1 he2 hE0 hz2
    refine (HCR.out _ HTT.out HSS.out).mono ?_
    rintro e_ v10 ⟨rfl, hb10⟩
    replace HTT := hide (HTT.out.below hb10)
    replace HSS := hide (HSS.out.below hb10)
    replace HXX := hide (HXX.out.below hb10)
    replace HX := hide (HX.out.below hb10)
    replace HB := hide (HB.out.trans (hb10.mono HB.out.size))
    clear hb10
    go_wp2_with fail
    refine (HBE.out _ HXX.out).mono ?_
    rintro e_ v11 ⟨rfl, q11, hq11⟩
    have hb11 : Below v10.heap.size v10 v11 := by rw [hq11]; exact Go.below_drewN (Below.refl _ _) _
    clear hq11
    replace HTT := hide (HTT.out.below hb11)
    replace HSS := hide (HSS.out.below hb11)
    replace HXX := hide (HXX.out.below hb11)
    replace HX := hide (HX.out.below hb11)
    replace HB := hide (HB.out.trans (hb11.mono HB.out.size))
    clear hb11
    go_wp2_with fail
    go_ret
    exact ⟨rfl, HB.out⟩
  subst hE0
  obtain ⟨⟨g1, rfl⟩, hv⟩ := HR1.out rfl
  have HV := hide hv
  clear hv HR1 HR2
  have hz1 : e1 = 0 := by have := HSE.out; unfold orS at this; by_cases h : e1 = 0; exact h; rw [if_neg h] at this; exact this.symm
  have hz2 : e2 = 0 := by have := HSE.out; rw [hz1] at this; exact this.symm
  subst hz1
  subst hz2
  have HZ2 := hide he2
  obtain ⟨p, rfl, rfl, hok⟩ := regE_ok he1
  have HZ := hide he1
  have HOK := hide hok
  clear he1 he2 hok HSE
  have hq0 : 0 < q := by
    rcases Nat.eq_zero_or_pos q with h | h
    · have := HZ2.out; unfold bitE at this; rw [if_pos h] at this; exact absurd this (by decide)
    · exact h
  have hq400 : q ≤ 400 := by
    by_cases h : q ≤ 400
    · exact h
    · have := HZ2.out; unfold bitE at this; rw [if_neg (by omega), if_pos (show (400 : Int) < (q : Int) by omega)] at this; exact absurd this (by decide)
  have HBT := hide (show ∀ j, j < q → IsBit (X j) from by
    have := HZ2.out
    unfold bitE at this
    rw [if_neg (by omega), if_neg (show ¬ (400 : Int) < (q : Int) by omega)] at this
    unfold unI at this
    by_cases hb : bitsB q X = true
    · exact bitsB_iff.1 hb
    · rw [if_neg hb] at this; exact absurd this (by decide))
  have t0 : ((0 : Int) != 0) = false := by decide
  obtain ⟨l0_0, l0_1, l0_2, l0_z⟩ := rec_cells HX.out
  go_wp2_with fail
  clear l0_0 l0_1 l0_2 l0_z
  refine (HCR.out _ HTT.out HSS.out).mono ?_
  rintro e_ v12 ⟨rfl, hb12⟩
  replace HTT := hide (HTT.out.below hb12)
  replace HSS := hide (HSS.out.below hb12)
  replace HXX := hide (HXX.out.below hb12)
  replace HX := hide (HX.out.below hb12)
  replace HV := hide (HV.out.below hb12)
  replace HB := hide (HB.out.trans (hb12.mono HB.out.size))
  clear hb12
  go_wp2_with fail
  refine (HBE.out _ HXX.out).mono ?_
  rintro e_ v13 ⟨rfl, q13, hq13⟩
  have hb13 : Below v12.heap.size v12 v13 := by rw [hq13]; exact Go.below_drewN (Below.refl _ _) _
  clear hq13
  replace HTT := hide (HTT.out.below hb13)
  replace HSS := hide (HSS.out.below hb13)
  replace HXX := hide (HXX.out.below hb13)
  replace HX := hide (HX.out.below hb13)
  replace HV := hide (HV.out.below hb13)
  replace HB := hide (HB.out.trans (hb13.mono HB.out.size))
  clear hb13
  obtain ⟨l0_0, l0_1, l0_2, l0_z⟩ := rec_cells HX.out
  go_wp2_with fail
  clear l0_0 l0_1 l0_2 l0_z
  have hcap := hd9
  have HRS := hide (fun W h1 h2 h3 => ScrambledR_any A B C n c p d q r T S X W hq400 hq0 HOK.out hnc (by omega) hd9 HBT.out h1 h2 h3)
  refine (HRS.out _ HTT.out HSS.out HXX.out).mono ?_
  rintro e_ v14 ⟨vr, rfl, hor, hb14⟩
  obtain ⟨Ar, ar, rfl, -, hir⟩ := hor.form
  replace HTT := hide (HTT.out.below hb14)
  replace HSS := hide (HSS.out.below hb14)
  replace HXX := hide (HXX.out.below hb14)
  replace HX := hide (HX.out.below hb14)
  replace HV := hide (HV.out.below hb14)
  replace HB := hide (HB.out.trans (hb14.mono HB.out.size))
  clear hb14
  have HIR := hide (hir.weak (Nat.zero_le _))
  clear hor hir HRS
  go_wp2_with fail
  have HI4 := hide (HV.out.atG (lo := 0) (Nat.zero_le _))
  have HIN := hide (ints_any _ Ar q q q ar _ _ _ (by omega) (by omega) HI4.out HIR.out)
  rw [show intsB q (fun j => xor1 (itS (p + 1) n T S j 0) (X j)) q (mixF (itS (p + 1) n T S) X) = true from intsB_iff.2 ⟨rfl, fun _ _ => rfl⟩] at HIN
  clear HI4
  refine (HIN.out).mono ?_
  rintro e_ v15 ⟨rfl, q15, hq15⟩
  have hb15 : Below v14.heap.size v14 v15 := by rw [hq15]; exact Go.below_drewN (Below.refl _ _) _
  clear hq15
  replace HTT := hide (HTT.out.below hb15)
  replace HSS := hide (HSS.out.below hb15)
  replace HXX := hide (HXX.out.below hb15)
  replace HX := hide (HX.out.below hb15)
  replace HV := hide (HV.out.below hb15)
  replace HIR := hide (HIR.out.below hb15)
  replace HB := hide (HB.out.trans (hb15.mono HB.out.size))
  clear hb15
  clear HIN
  clear HIR
  obtain ⟨l0_0, l0_1, l0_2, l0_z⟩ := rec_cells HX.out
  go_wp2_with fail
  clear l0_0 l0_1 l0_2 l0_z
  refine (HCO.out _ HTT.out HSS.out).mono ?_
  rintro e_ v16 ⟨C2, f2, D2, k2, rfl, hp1, hp2, hb16, hcd2⟩
  replace HTT := hide (HTT.out.below hb16)
  replace HSS := hide (HSS.out.below hb16)
  replace HXX := hide (HXX.out.below hb16)
  replace HX := hide (HX.out.below hb16)
  replace HV := hide (HV.out.below hb16)
  replace HB := hide (HB.out.trans (hb16.mono HB.out.size))
  clear hb16
  have HC2 := hide hp1
  clear hp1
  have HD2 := hide hp2
  clear hp2
  go_wp2_with fail
  clear hcd2
  have HCI2 := hide (fun W h => copyInts_own (some ⟨g1, 0, none⟩) q q (fun j => xor1 (itS (p + 1) n T S j 0) (X j)) W (by omega) h)
  refine (HCI2.out _ (HV.out.atG (Nat.zero_le _))).mono ?_
  rintro e_ v17 ⟨vy, rfl, hoy, hb17⟩
  obtain ⟨Ay, ay, rfl, -, -⟩ := hoy.form
  replace HTT := hide (HTT.out.below hb17)
  replace HSS := hide (HSS.out.below hb17)
  replace HXX := hide (HXX.out.below hb17)
  replace HX := hide (HX.out.below hb17)
  replace HV := hide (HV.out.below hb17)
  replace HC2 := hide (HC2.out.below hb17)
  replace HD2 := hide (HD2.out.below hb17)
  replace HB := hide (HB.out.trans (hb17.mono HB.out.size))
  clear hb17
  have HOy := hide hoy
  clear hoy
  go_wp2_with fail
  obtain ⟨qa5, qc5, e5, -, hi5⟩ := HC2.out.form
  injection e5 with e5 _ _
  subst e5
  obtain ⟨qa6, qc6, e6, -, hi6⟩ := HD2.out.form
  injection e6 with e6 _ _
  subst e6
  obtain ⟨qa7, qc7, e7, -, hi7⟩ := HOy.out.form
  injection e7 with e7 _ _
  subst e7
  have hE2 : scrE ((p : Int) + 1) n T (p + 1) S q (fun j => xor1 (itS (p + 1) n T S j 0) (X j)) = 0 := by
    unfold scrE
    rw [HZ.out, bitE_bits HZ2.out fun j _ => xor1_bit _ _]
    rfl
  have hsc2 := HSC.out _ _ _ f2 k2 ay (fun j => xor1 (itS (p + 1) n T S j 0) (X j)) _ h12a h12b hq402 (hi5.weak (Nat.zero_le _)) (hi6.weak (Nat.zero_le _)) (hi7.weak (Nat.zero_le _))
  rw [hE2] at hsc2
  refine hsc2.mono ?_
  rintro e_ v18 ⟨vz, rfl, hr3, -, hb18⟩
  obtain ⟨⟨g2, rfl⟩, hv2⟩ := hr3 rfl
  clear hi5 hi6 hi7 hr3 hsc2 hE2
  clear HC2 HD2 HOy
  replace HTT := hide (HTT.out.below hb18)
  replace HSS := hide (HSS.out.below hb18)
  replace HXX := hide (HXX.out.below hb18)
  replace HX := hide (HX.out.below hb18)
  replace HV := hide (HV.out.below hb18)
  replace HB := hide (HB.out.trans (hb18.mono HB.out.size))
  clear hb18
  have HV2 := hide (hv2.atG (lo := 0) (Nat.zero_le _))
  clear hv2
  go_wp2_with fail
  have HIN2 := hide (ints_any _ C q q q r _ X _ (by omega) (by omega) HV2.out HXX.out)
  rw [intsB_iff.2 ⟨rfl, fun j hj => mix_again ((HOK.out.it j).bits 0 (by omega)) (HBT.out j hj)⟩] at HIN2
  refine (HIN2.out).mono ?_
  rintro e_ v19 ⟨rfl, q19, hq19⟩
  have hb19 : Below v18.heap.size v18 v19 := by rw [hq19]; exact Go.below_drewN (Below.refl _ _) _
  clear hq19
  replace HTT := hide (HTT.out.below hb19)
  replace HSS := hide (HSS.out.below hb19)
  replace HXX := hide (HXX.out.below hb19)
  replace HX := hide (HX.out.below hb19)
  replace HV := hide (HV.out.below hb19)
  replace HV2 := hide (HV2.out.below hb19)
  replace HB := hide (HB.out.trans (hb19.mono HB.out.size))
  clear hb19
  go_wp2_with fail
  go_ret
  exact ⟨rfl, HB.out⟩
end Go.Proofs.Ytonmkmaeohfjpaa
