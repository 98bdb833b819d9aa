/- Lemmas: K1, K2. -/
import Derived.Test.YtcndeegfkgfnkaaBk09
import Derived.Test.YtcndeegfkgfnkaaBk10
import Derived.Test.YtcndeegfkgfnkaaBk12
set_option linter.unusedVariables false
set_option linter.unusedSimpArgs false
/- Cells that are found (without a walk): what Search and IdentityAt of the code hand back for a sequence among zeros, and for one with errors. -/
namespace Go.Proofs.Ytcndeegfkgfnkaa
open Go.RowKit
theorem recE_ok {n : Nat} {X : Nat → Int} (hn : n ≤ 120) (h : ∀ j, j < n → -100000 ≤ X j ∧ X j ≤ 100000) : recE n X = 0 := by
  have h1 : ∀ m, m ≤ n → badE (fun j => valE (X j)) m = 0 := fun m => by
    induction m with
    | zero => intro _; rfl
    | succ m ih =>
      intro hm
      unfold badE
      rw [if_pos (ih (by omega))]
      show unI (withinB (X m) (-100000) 100000) 2 = 0
      rw [withinB_yes (h m (by omega))]
      rfl
  unfold recE
  rw [show decide ((n : Int) ≤ 120) = true by simp; omega, show valsE n X = 0 from h1 n (Nat.le_refl _)]
  rfl
/-- The first k values of a sequence, so strong, at a place. -/
def fndX (i a : Nat) (s : Int) (k j : Nat) : Int := if a ≤ j ∧ j < a + k then s * seqF i (j - a) else 0
/-- The whole sequence with the first k errors. -/
def fndY (i a : Nat) (s : Int) (F : Nat → Int) (k j : Nat) : Int := fndX i a s 62 j + (if a ≤ j ∧ j < a + k then F (j - a) else 0)
theorem fndX_at {i a : Nat} {s : Int} {j : Nat} (hj : j < 62) : fndX i a s 62 (a + j) = s * seqF i j := by
  unfold fndX
  rw [if_pos (by omega), Nat.add_sub_cancel_left]
theorem fndX_le {i a : Nat} {s : Int} (hs : 1 ≤ s) (k j : Nat) (hk : k ≤ 62) : -s ≤ fndX i a s k j ∧ fndX i a s k j ≤ s := by
  unfold fndX
  by_cases e : a ≤ j ∧ j < a + k
  · rw [if_pos e]
    rcases seqF_sign (i := i) (j := j - a) (by omega) with e | e <;> rw [e] <;> omega
  · rw [if_neg e]; omega
theorem fndX_set (i a : Nat) (s : Int) (k : Nat) : setF (fndX i a s k) (a + k) (s * seqF i k) = fndX i a s (k + 1) := by
  funext j
  unfold setF fndX
  by_cases e : j = a + k
  · subst e
    rw [if_pos rfl, if_pos (by omega), Nat.add_sub_cancel_left]
  · rw [if_neg e]
    by_cases e2 : a ≤ j ∧ j < a + k
    · rw [if_pos e2, if_pos (by omega)]
    · rw [if_neg e2, if_neg (by omega)]
theorem fndX_zero (i a : Nat) (s : Int) : fndX i a s 0 = fun _ => 0 := by
  funext j
  exact if_neg (by omega)
theorem fndY_zero (i a : Nat) (s : Int) (F : Nat → Int) : fndY i a s F 0 = fndX i a s 62 := by
  funext j
  show fndX i a s 62 j + (if a ≤ j ∧ j < a + 0 then F (j - a) else 0) = _
  rw [if_neg (by omega), Int.add_zero]
theorem fndY_new {i a : Nat} {s : Int} {F : Nat → Int} {k : Nat} (hk : k < 62) : fndY i a s F k (a + k) = s * seqF i k := by
  unfold fndY
  rw [fndX_at hk, if_neg (by omega), Int.add_zero]
theorem fndY_set (i a : Nat) (s : Int) (F : Nat → Int) (k : Nat) (hk : k < 62) : setF (fndY i a s F k) (a + k) (s * seqF i k + F k) = fndY i a s F (k + 1) := by
  funext j
  unfold setF
  by_cases e : j = a + k
  · subst e
    unfold fndY
    rw [if_pos rfl, if_pos (by omega), Nat.add_sub_cancel_left, fndX_at hk]
  · rw [if_neg e]
    unfold fndY
    by_cases e2 : a ≤ j ∧ j < a + k
    · rw [if_pos e2, if_pos (by omega)]
    · rw [if_neg e2, if_neg (by omega)]
theorem found_all {i a b N : Nat} {s : Int} (hi : i < 1008) (hs : 1 ≤ s) (hs2 : s ≤ 50000) (ha : a ≤ 20) (hb : b ≤ 20) (hN : N = a + 62 + b) :
    seE N (fndX i a s 62) = 0 ∧ seP N (fndX i a s 62) = (a : Int) ∧ seI N (fndX i a s 62) = (i : Int) ∧ seC N (fndX i a s 62) = 62 * s := by
  have h0 : seE N (fndX i a s 62) = 0 := by
    unfold seE
    rw [recE_ok (by omega) fun j _ => by have := fndX_le (i := i) (a := a) hs 62 j (Nat.le_refl _); omega, show decide ((62 : Int) ≤ (N : Int)) = true by simp; omega]
    rfl
  obtain ⟨h1, h2, h3⟩ := cell_found (X := fndX i a s 62) (p := a) (i := i) (n := N - 61) hi hs (by omega) (fun j hj => fndX_at hj) (fun j hj => if_neg (by omega)) (fun j hj => if_neg (by omega))
  have h4 : sePl N (fndX i a s 62) = a := h1
  refine ⟨h0, ?_, ?_, ?_⟩
  · unfold seP; rw [if_pos h0, h4]
  · unfold seI; rw [if_pos h0, h4, h2]
  · unfold seC; rw [if_pos h0, h4, h3]
theorem at_all {i a b N : Nat} {s : Int} {F : Nat → Int} {k : Nat} (hi : i < 1008) (hs : 1 ≤ s) (hs2 : s ≤ 50000) (ha : a ≤ 20) (hb : b ≤ 20) (hN : N = a + 62 + b) (hk : k ≤ 62)
    (hF : ∀ j, j < k → (-50000 ≤ F j ∧ F j ≤ 50000) ∧ 62 * F j < 11 * s ∧ -(62 * F j) < 11 * s) :
    idE N (fndY i a s F k) (a : Int) = 0 ∧ idP N (fndY i a s F k) (a : Int) = (a : Int) ∧ idI N (fndY i a s F k) (a : Int) = (i : Int) := by
  have hY : ∀ j, j < 62 → fndY i a s F k (a + j) = s * seqF i j + (if j < k then F j else 0) := fun j hj => by
    unfold fndY
    rw [fndX_at hj]
    by_cases e : j < k
    · rw [if_pos (by omega), if_pos e, Nat.add_sub_cancel_left]
    · rw [if_neg (by omega), if_neg e]
  have h0 : idE N (fndY i a s F k) (a : Int) = 0 := by
    unfold idE
    rw [recE_ok (by omega) fun j _ => by
      have h1 := fndX_le (i := i) (a := a) hs 62 j (Nat.le_refl _)
      unfold fndY
      by_cases e : a ≤ j ∧ j < a + k
      · have := (hF (j - a) (by omega)).1
        rw [if_pos e]; omega
      · rw [if_neg e]; omega, withinB_yes (show (0 : Int) ≤ (a : Int) ∧ (a : Int) ≤ (N : Int) - 62 by omega)]
    rfl
  have h2 := fId_at (X := fndY i a s F k) (E := fun j => if j < k then F j else 0) (p := a) (i := i) (s := s) (M := (11 * s - 1) / 62) hi hs (by omega) (fun j hj => by
    show -((11 * s - 1) / 62) ≤ (if j < k then F j else 0) ∧ (if j < k then F j else 0) ≤ (11 * s - 1) / 62
    by_cases e : j < k
    · obtain ⟨-, h3, h4⟩ := hF j e
      rw [if_pos e]; omega
    · rw [if_neg e]; omega) hY
  refine ⟨h0, ?_, ?_⟩
  · unfold idP; rw [if_pos h0]
  · unfold idI; rw [if_pos h0]; show ((fId (fndY i a s F k) a : Nat) : Int) = _; rw [h2]
theorem Box.c5 {w : World} {b : Nat} {t : TypeId} {p0 p1 p2 p3 p4 : Value} (h : Box w b t #[p0, p1, p2, p3, p4]) :
    w.cell? ⟨b, 0, none⟩ = some p0 ∧ w.cell? ⟨b, 1, none⟩ = some p1 ∧ w.cell? ⟨b, 2, none⟩ = some p2 ∧ w.cell? ⟨b, 3, none⟩ = some p3 ∧ w.cell? ⟨b, 4, none⟩ = some p4 ∧ b < w.heap.size :=
  ⟨h.at_ 0, h.at_ 1, h.at_ 2, h.at_ 3, h.at_ 4, h.lt⟩
theorem intsAt_cell {w : World} {lo b o n k : Nat} {F : Nat → Int} (h : IntsAt w lo (some ⟨b, o, none⟩) n F) (hk : k < n) : w.cell? ⟨b, o + k, none⟩ = some (.int .i64 (F k)) := by
  obtain ⟨b', o', e, -, -, hc⟩ := h k hk
  injection e with e
  injection e with e1 e2
  subst e1; subst e2
  exact hc
end Go.Proofs.Ytcndeegfkgfnkaa
/- The walk of WaveFinds. -/
namespace Go.Proofs.Ytcndeegfkgfnkaa
open Go.RowKit Go.Great
set_option maxHeartbeats 16000000 in
set_option maxRecDepth 100000 in
theorem waveFinds_walk (I S a0 b0 : Int) (A : Option Addr) (n c : Nat) (F : Nat → Int) (w : World) (hn9 : n ≤ 9223372036854775807) (hI : IntsAt w 0 A n F) :
    Calls Try.prog 3 #[.agg #[.int .i64 I, .int .i64 S, .int .i64 a0, .int .i64 b0, .slice A n c]] w fun e w' => e = .returned (.bool true) ∧ Below w.heap.size w w' := by
  have HAW := hide (fun W => awake_any W)
  have HI := hide hI
  have HID := hide (fun W => identityErr_any I W)
  clear hI
  by_cases h0 : withinB I 0 1007 = true
  case neg =>
    have e0 : withinB I 0 1007 = false := by simpa using h0
    replace HID : Hid (∀ W, Calls Try.prog 6 #[.int .i64 I] W fun e w' => e = .returned (.int .i64 2) ∧ W = w') := hide (fun W => by have := HID.out W; rw [e0] at this; exact this)
    clear e0 h0
    go_enter Try.func3, Try.ntmps3
    go_upto_region 1 with fail
    obtain ⟨w_1, hw_1⟩ : ∃ q : World, q = (w.alloc (.cells #[.int .i64 I, .int .i64 S, .int .i64 a0, .int .i64 b0, .slice A n c] 24)) := ⟨_, rfl⟩
    try rw [← hw_1]
    have HX0 := hide (show Box w_1 (w.heap.size) 24 #[.int .i64 I, .int .i64 S, .int .i64 a0, .int .i64 b0, .slice A n c] by rw [hw_1]; exact Box.made rfl)
    have HB := hide (show Below w.heap.size w w_1 by rw [hw_1]; (repeat (first | (with_reducible exact Below.refl _ _) | (with_reducible refine Go.below_drewN ?_ _) | (with_reducible refine Below.drew ?_) | (with_reducible refine Below.alloc ?_ (by first | exact Nat.le_refl _ | (simp; done) | (simp; omega) | omega) _) | (with_reducible refine Below.setCell ?_ (by first | exact Nat.le_refl _ | (simp; done) | (simp; omega) | omega) _))))
    clear hw_1
    go_wp2_with fail
    refine (HAW.out _).mono ?_
    rintro e_ w_2 ⟨rfl, hb_2⟩
    replace HX0 := hide (HX0.out.below hb_2)
    replace HB := hide (HB.out.trans (hb_2.mono HB.out.size))
    clear hb_2
    obtain ⟨x0, x1, x2, x3, x4, hlx⟩ := HX0.out.c5
    go_wp2_with (first | (go_at_call 6; refine (HID.out _).mono ?_; rintro e_ v_ ⟨rfl, rfl⟩) | (go_at_call 7; refine (within_any _ _ _ _).mono ?_; rintro e_ v_ ⟨rfl, rfl⟩; first | rw [HWS.out] | rw [HWA.out] | rw [HWB.out]))
    go_ret
    exact ⟨rfl, HB.out⟩
  replace HID : Hid (∀ W, Calls Try.prog 6 #[.int .i64 I] W fun e w' => e = .returned (.int .i64 0) ∧ W = w') := hide (fun W => by have := HID.out W; rw [h0] at this; exact this)
  by_cases hHWS : withinB S 1 50000 = true
  case neg =>
    have HWS := hide (show withinB S 1 50000 = false by simpa using hHWS)
    clear hHWS
    go_enter Try.func3, Try.ntmps3
    go_upto_region 1 with fail
    obtain ⟨w_3, hw_3⟩ : ∃ q : World, q = (w.alloc (.cells #[.int .i64 I, .int .i64 S, .int .i64 a0, .int .i64 b0, .slice A n c] 24)) := ⟨_, rfl⟩
    try rw [← hw_3]
    have HX0 := hide (show Box w_3 (w.heap.size) 24 #[.int .i64 I, .int .i64 S, .int .i64 a0, .int .i64 b0, .slice A n c] by rw [hw_3]; exact Box.made rfl)
    have HB := hide (show Below w.heap.size w w_3 by rw [hw_3]; (repeat (first | (with_reducible exact Below.refl _ _) | (with_reducible refine Go.below_drewN ?_ _) | (with_reducible refine Below.drew ?_) | (with_reducible refine Below.alloc ?_ (by first | exact Nat.le_refl _ | (simp; done) | (simp; omega) | omega) _) | (with_reducible refine Below.setCell ?_ (by first | exact Nat.le_refl _ | (simp; done) | (simp; omega) | omega) _))))
    clear hw_3
    go_wp2_with fail
    refine (HAW.out _).mono ?_
    rintro e_ w_4 ⟨rfl, hb_4⟩
    replace HX0 := hide (HX0.out.below hb_4)
    replace HB := hide (HB.out.trans (hb_4.mono HB.out.size))
    clear hb_4
    obtain ⟨x0, x1, x2, x3, x4, hlx⟩ := HX0.out.c5
    go_wp2_with (first | (go_at_call 6; refine (HID.out _).mono ?_; rintro e_ v_ ⟨rfl, rfl⟩) | (go_at_call 7; refine (within_any _ _ _ _).mono ?_; rintro e_ v_ ⟨rfl, rfl⟩; first | rw [HWS.out] | rw [HWA.out] | rw [HWB.out]))
    go_ret
    exact ⟨rfl, HB.out⟩
  have HWS := hide hHWS
  clear hHWS
  by_cases hHWA : withinB a0 0 20 = true
  case neg =>
    have HWA := hide (show withinB a0 0 20 = false by simpa using hHWA)
    clear hHWA
    go_enter Try.func3, Try.ntmps3
    go_upto_region 1 with fail
    obtain ⟨w_5, hw_5⟩ : ∃ q : World, q = (w.alloc (.cells #[.int .i64 I, .int .i64 S, .int .i64 a0, .int .i64 b0, .slice A n c] 24)) := ⟨_, rfl⟩
    try rw [← hw_5]
    have HX0 := hide (show Box w_5 (w.heap.size) 24 #[.int .i64 I, .int .i64 S, .int .i64 a0, .int .i64 b0, .slice A n c] by rw [hw_5]; exact Box.made rfl)
    have HB := hide (show Below w.heap.size w w_5 by rw [hw_5]; (repeat (first | (with_reducible exact Below.refl _ _) | (with_reducible refine Go.below_drewN ?_ _) | (with_reducible refine Below.drew ?_) | (with_reducible refine Below.alloc ?_ (by first | exact Nat.le_refl _ | (simp; done) | (simp; omega) | omega) _) | (with_reducible refine Below.setCell ?_ (by first | exact Nat.le_refl _ | (simp; done) | (simp; omega) | omega) _))))
    clear hw_5
    go_wp2_with fail
    refine (HAW.out _).mono ?_
    rintro e_ w_6 ⟨rfl, hb_6⟩
    replace HX0 := hide (HX0.out.below hb_6)
    replace HB := hide (HB.out.trans (hb_6.mono HB.out.size))
    clear hb_6
    obtain ⟨x0, x1, x2, x3, x4, hlx⟩ := HX0.out.c5
    go_wp2_with (first | (go_at_call 6; refine (HID.out _).mono ?_; rintro e_ v_ ⟨rfl, rfl⟩) | (go_at_call 7; refine (within_any _ _ _ _).mono ?_; rintro e_ v_ ⟨rfl, rfl⟩; first | rw [HWS.out] | rw [HWA.out] | rw [HWB.out]))
    go_ret
    exact ⟨rfl, HB.out⟩
  have HWA := hide hHWA
  clear hHWA
  by_cases hHWB : withinB b0 0 20 = true
  case neg =>
    have HWB := hide (show withinB b0 0 20 = false by simpa using hHWB)
    clear hHWB
    go_enter Try.func3, Try.ntmps3
    go_upto_region 1 with fail
    obtain ⟨w_7, hw_7⟩ : ∃ q : World, q = (w.alloc (.cells #[.int .i64 I, .int .i64 S, .int .i64 a0, .int .i64 b0, .slice A n c] 24)) := ⟨_, rfl⟩
    try rw [← hw_7]
    have HX0 := hide (show Box w_7 (w.heap.size) 24 #[.int .i64 I, .int .i64 S, .int .i64 a0, .int .i64 b0, .slice A n c] by rw [hw_7]; exact Box.made rfl)
    have HB := hide (show Below w.heap.size w w_7 by rw [hw_7]; (repeat (first | (with_reducible exact Below.refl _ _) | (with_reducible refine Go.below_drewN ?_ _) | (with_reducible refine Below.drew ?_) | (with_reducible refine Below.alloc ?_ (by first | exact Nat.le_refl _ | (simp; done) | (simp; omega) | omega) _) | (with_reducible refine Below.setCell ?_ (by first | exact Nat.le_refl _ | (simp; done) | (simp; omega) | omega) _))))
    clear hw_7
    go_wp2_with fail
    refine (HAW.out _).mono ?_
    rintro e_ w_8 ⟨rfl, hb_8⟩
    replace HX0 := hide (HX0.out.below hb_8)
    replace HB := hide (HB.out.trans (hb_8.mono HB.out.size))
    clear hb_8
    obtain ⟨x0, x1, x2, x3, x4, hlx⟩ := HX0.out.c5
    go_wp2_with (first | (go_at_call 6; refine (HID.out _).mono ?_; rintro e_ v_ ⟨rfl, rfl⟩) | (go_at_call 7; refine (within_any _ _ _ _).mono ?_; rintro e_ v_ ⟨rfl, rfl⟩; first | rw [HWS.out] | rw [HWA.out] | rw [HWB.out]))
    go_ret
    exact ⟨rfl, HB.out⟩
  have HWB := hide hHWB
  clear hHWB
  have k0 : 0 ≤ I ∧ I ≤ 1007 := by simpa [withinB] using h0
  have k1 : 1 ≤ S ∧ S ≤ 50000 := by simpa [withinB] using HWS.out
  have k2 : 0 ≤ a0 ∧ a0 ≤ 20 := by simpa [withinB] using HWA.out
  have k3 : 0 ≤ b0 ∧ b0 ≤ 20 := by simpa [withinB] using HWB.out
  clear h0
  obtain ⟨i, rfl⟩ : ∃ z : Nat, I = (z : Int) := ⟨I.toNat, by omega⟩
  obtain ⟨a, rfl⟩ : ∃ z : Nat, a0 = (z : Int) := ⟨a0.toNat, by omega⟩
  obtain ⟨b, rfl⟩ : ∃ z : Nat, b0 = (z : Int) := ⟨b0.toNat, by omega⟩
  obtain ⟨hs1, hs2⟩ := k1
  have hi : i < 1008 := by omega
  have ha : a ≤ 20 := by omega
  have hb : b ≤ 20 := by omega
  obtain ⟨N, hN⟩ : ∃ z, a + 62 + b = z := ⟨_, rfl⟩
  clear k0 k2 k3
  have HSQ := hide (fun W => SequenceOf_right i W hi)
  have HCP := hide (fun (D : Option Addr) W (h : IntsAt W 0 D N (fndX i a S 62)) => copyInts_own D N N (fndX i a S 62) W (by omega) h)
  obtain ⟨f1, f2, f3, f4⟩ := found_all (b := b) (N := N) hi hs1 hs2 ha hb hN.symm
  have HSE := hide (fun D d W (h1 : N ≤ d) (h2 : d ≤ 9223372036854775807) (h : IntsAt W 0 D N (fndX i a S 62)) => Search_any D N d (fndX i a S 62) W (by omega) h1 h2 h)
  rw [f1, f2, f3, f4] at HSE
  have HIA := hide (fun (k : Nat) (hk : k ≤ 62) (hF : ∀ j, j < k → (-50000 ≤ F j ∧ F j ≤ 50000) ∧ 62 * F j < 11 * S ∧ -(62 * F j) < 11 * S) (D : Option Addr) W (h : IntsAt W 0 D N (fndY i a S F k)) => by
    have h1 := IdentityAt_any D N N (fndY i a S F k) (a : Int) W (by omega) (Nat.le_refl _) (by omega) h
    obtain ⟨f1, f2, f3⟩ := at_all (b := b) hi hs1 hs2 ha hb hN.symm hk hF
    rw [f1, f2, f3] at h1
    exact h1)
  have HSG := hide (fun k (hk : k < 62) => seqF_sign (i := i) hk)
  have HXS := hide (fndX_set i a S)
  have HYS := hide (fndY_set i a S F)
  have HYN := hide (fun k (hk : k < 62) => fndY_new (i := i) (a := a) (s := S) (F := F) hk)
  have HY0 := hide (fndY_zero i a S F)
  have HX00 := hide (fndX_zero i a S)
  obtain ⟨X, hX⟩ : ∃ z, fndX i a S = z := ⟨_, rfl⟩
  obtain ⟨Y, hY⟩ : ∃ z, fndY i a S F = z := ⟨_, rfl⟩
  simp only [hX] at HCP HSE HXS HY0 HX00
  simp only [hY] at HIA HYS HYN HY0
  clear hX hY f1 f2 f3 f4
  have q62 : IntKind.i64.wrap (62 * S) = 62 * S := IntWalk.i64_in _ (by omega)
  have q11 : IntKind.i64.wrap (11 * S) = 11 * S := IntWalk.i64_in _ (by omega)
  have qa : IntKind.i64.wrap ((a : Int) + 62) = (a : Int) + 62 := IntWalk.i64_in _ (by omega)
  have qb : IntKind.i64.wrap ((a : Int) + 62 + (b : Int)) = (N : Int) := by rw [IntWalk.i64_in _ (by omega)]; omega
  obtain ⟨i0, hii, hz0, hz1, hz2⟩ := info_parts intInfo
  have hmk := fun W => run_make_row (P := Try.prog) 22 3 i0 (.int .i64 0) Try.underlying22 hii hz0 hz1 rfl .i64 .i64 N (by rw [hz2]; omega) (by omega) W
  clear hii hz0 hz1 hz2
  go_enter Try.func3, Try.ntmps3
  go_upto_region 1 with fail
  obtain ⟨w_9, hw_9⟩ : ∃ q : World, q = (w.alloc (.cells #[.int .i64 (i : Int), .int .i64 S, .int .i64 (a : Int), .int .i64 (b : Int), .slice A n c] 24)) := ⟨_, rfl⟩
  try rw [← hw_9]
  have HX0 := hide (show Box w_9 (w.heap.size) 24 #[.int .i64 (i : Int), .int .i64 S, .int .i64 (a : Int), .int .i64 (b : Int), .slice A n c] by rw [hw_9]; exact Box.made rfl)
  have HB := hide (show Below w.heap.size w w_9 by rw [hw_9]; (repeat (first | (with_reducible exact Below.refl _ _) | (with_reducible refine Go.below_drewN ?_ _) | (with_reducible refine Below.drew ?_) | (with_reducible refine Below.alloc ?_ (by first | exact Nat.le_refl _ | (simp; done) | (simp; omega) | omega) _) | (with_reducible refine Below.setCell ?_ (by first | exact Nat.le_refl _ | (simp; done) | (simp; omega) | omega) _))))
  clear hw_9
  go_wp2_with fail
  refine (HAW.out _).mono ?_
  rintro e_ w_10 ⟨rfl, hb_10⟩
  replace HX0 := hide (HX0.out.below hb_10)
  replace HB := hide (HB.out.trans (hb_10.mono HB.out.size))
  clear hb_10
  obtain ⟨x0, x1, x2, x3, x4, hlx⟩ := HX0.out.c5
  go_wp2_with (first | (go_at_call 6; refine (HID.out _).mono ?_; rintro e_ v_ ⟨rfl, rfl⟩) | (go_at_call 7; refine (within_any _ _ _ _).mono ?_; rintro e_ v_ ⟨rfl, rfl⟩; first | rw [HWS.out] | rw [HWA.out] | rw [HWB.out]))
  clear HID HWS HWA HWB x0 x1 x2 x3 x4 hlx
  refine (HSQ.out _).mono ?_
  rintro e_ w_11 ⟨A1, c1, rfl, hc1, hi1, hb_11⟩
  replace HX0 := hide (HX0.out.below hb_11)
  replace HB := hide (HB.out.trans (hb_11.mono HB.out.size))
  clear hb_11
  have HL := hide (hi1.weak (Nat.zero_le _))
  clear hc1 hi1
  obtain ⟨x0, x1, x2, x3, x4, hlx⟩ := HX0.out.c5
  go_wp2_with fail
  clear x0 x1 x2 x3 x4 hlx hmk qa qb HSQ HAW
  obtain ⟨g, hg⟩ : ∃ q, w_11.heap.size = q := ⟨_, rfl⟩
  obtain ⟨wM, hM⟩ : ∃ q : World, q = w_11.alloc (.cells (madeCells #[.int .i64 0] N) 3) := ⟨_, rfl⟩
  rw [← hM]
  have HO := hide (show OwnInts wM g (.slice (some ⟨g, 0, none⟩) N N) N (X 0) by rw [hM, HX00.out]; exact ownInts_zeros w_11 g g N (by omega) hg.symm (by unfold maxLen; omega))
  have HW := hide (show Below w_11.heap.size w_11 wM by rw [hM]; exact (Below.refl _ _).alloc (Nat.le_refl _) _)
  have HXo := HX0
  have HLo := HL
  have HBo := HB
  have HG := hide hg
  clear HX0 HL HB hM HX00
  simp only [hg]
  obtain ⟨wO, hwO⟩ : ∃ q, w_11 = q := ⟨_, rfl⟩
  simp only [hwO] at HXo HLo HBo HG HW
  clear hwO hg
  go_loopw [6] (fun s wr => ∃ k : Nat, k ≤ 62 ∧ s = .int .i64 (k : Int) ∧ Hid (OwnInts wr g (.slice (some ⟨g, 0, none⟩) N N) N (X k)) ∧ Hid (Below wO.heap.size wO wr)) (fun s _ => 62 - (Go.RowKit.intOf s).toNat)
  case atStart => exact ⟨0, by decide, rfl, HO, HW⟩
  case round =>
    clear HO HW
    obtain ⟨k, hk, rfl, HO, HW⟩ := hrel
    obtain ⟨wA, rfl⟩ : ∃ x : World, x = wr := ⟨_, rfl⟩
    by_cases hlt : k < 62
    case pos =>
      have hltz : (k : Int) < 62 := by omega
      obtain ⟨u, hu⟩ : ∃ z, seqF i k = z := ⟨_, rfl⟩
      have hu1 : u = 1 ∨ u = -1 := by rw [← hu]; exact HSG.out k hlt
      have HS := hide (HXS.out k)
      rw [hu] at HS
      obtain ⟨v, hv⟩ : ∃ z, S * u = z := ⟨_, rfl⟩
      rw [hv] at HS
      have q : IntKind.i64.wrap (S * u) = v := by rw [← hv]; apply IntWalk.i64_in; rcases hu1 with e | e <;> rw [e] <;> omega
      have q2 : IntKind.i64.wrap ((a : Int) + (k : Int)) = (a : Int) + (k : Int) := IntWalk.i64_in _ (by omega)
      have htz : (a : Int) + (k : Int) < (N : Int) := by omega
      have htz0 : 0 ≤ (a : Int) + (k : Int) := by omega
      have qt : ((a : Int) + (k : Int)).toNat = a + k := by omega
      have HSV := hide hv
      clear hv hu1
      have HX0 := hide (HXo.out.below (w' := wA) HW.out)
      have HL := hide (HLo.out.below (w' := wA) HW.out)
      obtain ⟨bl, ol, hbe, -, -, hcu⟩ := HL.out k hlt
      subst hbe
      clear hcu
      have HU := hide hu
      go_upto_region 12 with fail
      refine wp_region_held_drew (S := fun w' => w'.cell? ⟨w.heap.size, 1, none⟩ = some (.int .i64 S) ∧ w'.cell? ⟨w.heap.size, 2, none⟩ = some (.int .i64 (a : Int)) ∧ w'.cell? ⟨bl, ol + k, none⟩ = some (.int .i64 u)) (by kernel_rfl) ⟨HX0.out.c5.2.1, HX0.out.c5.2.2.1, by rw [← HU.out]; exact intsAt_cell HL.out hlt⟩ (fun hHeld => ?_)
      obtain ⟨w_12, hw_12⟩ : ∃ q : World, q = wA.drew := ⟨_, rfl⟩
      rw [← hw_12] at hHeld ⊢
      have hc_12 : Below wA.heap.size wA w_12 := by rw [hw_12]; exact (Below.refl _ _).drew
      clear hw_12
      replace HX0 := hide (HX0.out.below hc_12)
      replace HL := hide (HL.out.below hc_12)
      replace HO := hide (HO.out.below hc_12)
      replace HW := hide (HW.out.trans (hc_12.mono HW.out.size))
      clear hc_12
      refine wpAnyH_take (i := 0) (oi := ⟨some 60, _, _, _, _, _⟩) (v := ?_) rfl (by kernel_rfl) (by kernel_rfl) (by kernel_rfl) (fun _ _ _ h => h) (Or.inl ⟨by rfl, ?_⟩) (by assumption) ?_
      rotate_left
      · (intro w' hSw; (try dsimp only at hSw); go_simp <;> (with_reducible rfl))
      try simp only [Act.put, List.setIfInBounds_toArray, List.set_cons_zero, List.set_cons_succ]
      refine wpAnyH_take (i := 1) (oi := ⟨some 61, _, _, _, _, _⟩) (v := ?_) rfl (by kernel_rfl) (by kernel_rfl) (by kernel_rfl) (fun _ _ _ h => h) (Or.inl ⟨by rfl, ?_⟩) (by assumption) ?_
      rotate_left
      · (intro w' hSw; (try dsimp only at hSw); go_simp <;> (with_reducible rfl))
      try simp only [Act.put, List.setIfInBounds_toArray, List.set_cons_zero, List.set_cons_succ]
      refine wpAnyH_take (i := 2) (oi := ⟨some 62, _, _, _, _, _⟩) (v := ?_) rfl (by kernel_rfl) (by kernel_rfl) (by kernel_rfl) (fun _ _ _ h => h) (Or.inl ⟨by rfl, ?_⟩) (by assumption) ?_
      rotate_left
      · (intro w' hSw; (try dsimp only at hSw); go_simp <;> (with_reducible rfl))
      try simp only [Act.put, List.setIfInBounds_toArray, List.set_cons_zero, List.set_cons_succ]
      refine wpAnyH_take (i := 3) (oi := ⟨some 63, _, _, _, _, _⟩) (v := ?_) rfl (by kernel_rfl) (by kernel_rfl) (by kernel_rfl) (fun _ _ _ h => h) (Or.inl ⟨by rfl, ?_⟩) (by assumption) ?_
      rotate_left
      · (intro w' hSw; (try dsimp only at hSw); go_simp <;> (with_reducible rfl))
      try simp only [Act.put, List.setIfInBounds_toArray, List.set_cons_zero, List.set_cons_succ]
      refine wpAnyH_take (i := 4) (oi := ⟨some 64, _, _, _, _, _⟩) (v := ?_) rfl (by kernel_rfl) (by kernel_rfl) (by kernel_rfl) (fun _ _ _ h => h) (Or.inl ⟨by rfl, ?_⟩) (by assumption) ?_
      rotate_left
      · (intro w' hSw; (try dsimp only at hSw); go_simp <;> (with_reducible rfl))
      try simp only [Act.put, List.setIfInBounds_toArray, List.set_cons_zero, List.set_cons_succ]
      refine wpAnyH_take (i := 5) (oi := ⟨some 65, _, _, _, _, _⟩) (v := ?_) rfl (by kernel_rfl) (by kernel_rfl) (by kernel_rfl) (fun _ _ _ h => h) (Or.inl ⟨by rfl, ?_⟩) (by assumption) ?_
      rotate_left
      · (intro w' hSw; (try dsimp only at hSw); go_simp <;> (with_reducible rfl))
      try simp only [Act.put, List.setIfInBounds_toArray, List.set_cons_zero, List.set_cons_succ]
      refine wpAnyH_take (i := 6) (oi := ⟨some 66, _, _, _, _, _⟩) (v := ?_) rfl (by kernel_rfl) (by kernel_rfl) (by kernel_rfl) (fun _ _ _ h => h) (Or.inl ⟨by rfl, ?_⟩) (by assumption) ?_
      rotate_left
      · (intro w' hSw; (try dsimp only at hSw); go_simp <;> (with_reducible rfl))
      try simp only [Act.put, List.setIfInBounds_toArray, List.set_cons_zero, List.set_cons_succ]
      refine wpAnyH_take (i := 7) (oi := ⟨some 67, _, _, _, _, _⟩) (v := ?_) rfl (by kernel_rfl) (by kernel_rfl) (by kernel_rfl) (fun _ _ _ h => h) (Or.inl ⟨by rfl, ?_⟩) (by assumption) ?_
      rotate_left
      · (intro w' hSw; (try dsimp only at hSw); go_simp <;> (with_reducible rfl))
      try simp only [Act.put, List.setIfInBounds_toArray, List.set_cons_zero, List.set_cons_succ]
      refine wpAnyH_take (i := 8) (oi := ⟨some 68, _, _, _, _, _⟩) (v := ?_) rfl (by kernel_rfl) (by kernel_rfl) (by kernel_rfl) (fun _ _ _ h => h) (Or.inl ⟨by rfl, ?_⟩) (by assumption) ?_
      rotate_left
      · (intro w' hSw; (try dsimp only at hSw); go_simp <;> (with_reducible rfl))
      try simp only [Act.put, List.setIfInBounds_toArray, List.set_cons_zero, List.set_cons_succ]
      refine wpAnyH_take (i := 9) (oi := ⟨some 69, _, _, _, _, _⟩) (v := ?_) rfl (by kernel_rfl) (by kernel_rfl) (by kernel_rfl) (fun _ _ _ h => h) (Or.inl ⟨by rfl, ?_⟩) (by assumption) ?_
      rotate_left
      · (intro w' hSw; (try dsimp only at hSw); go_simp <;> (with_reducible rfl))
      try simp only [Act.put, List.setIfInBounds_toArray, List.set_cons_zero, List.set_cons_succ]
      refine wpAnyH_take (i := 10) (oi := ⟨some 70, _, _, _, _, _⟩) (v := ?_) rfl (by kernel_rfl) (by kernel_rfl) (by kernel_rfl) (fun _ _ _ h => h) (Or.inl ⟨by rfl, ?_⟩) (by assumption) ?_
      rotate_left
      · (intro w' hSw; (try dsimp only at hSw); go_simp <;> (with_reducible rfl))
      try simp only [Act.put, List.setIfInBounds_toArray, List.set_cons_zero, List.set_cons_succ]
      refine wpAnyH_take (i := 11) (oi := ⟨some 71, _, _, _, _, _⟩) (v := ?_) rfl (by kernel_rfl) (by kernel_rfl) (by kernel_rfl) (fun _ _ _ h => h) (Or.inl ⟨by rfl, ?_⟩) (by assumption) ?_
      rotate_left
      · (intro w' hSw; (try dsimp only at hSw); go_simp <;> (with_reducible rfl))
      try simp only [Act.put, List.setIfInBounds_toArray, List.set_cons_zero, List.set_cons_succ]
      refine wpAnyH_take (i := 12) (oi := ⟨some 72, _, _, _, _, _⟩) (v := ?_) rfl (by kernel_rfl) (by kernel_rfl) (by kernel_rfl) (fun _ _ _ h => h) (Or.inl ⟨by rfl, ?_⟩) (by assumption) ?_
      rotate_left
      · (intro w' hSw; (try dsimp only at hSw); go_simp <;> (with_reducible rfl))
      try simp only [Act.put, List.setIfInBounds_toArray, List.set_cons_zero, List.set_cons_succ]
      refine wpAnyH_ready (rs := [13]) (by kernel_rfl) (by simp) ?_
      refine AllReadyH.cons (o := ⟨none, _, _, _, _, _⟩) rfl (fun K' hK => ?_) AllReadyH.nil
      have c0 := HO.out.cellAt (k := a + k) (by omega)
      have f0 := HO.out.frozen (a + k)
      go_simp
      clear c0 f0
      replace HO := hide (HO.out.set_ (a + k) v)
      rw [HS.out] at HO
      replace HW := hide (HW.out.setCell (p := ⟨g, a + k, none⟩) (Nat.le_of_eq HG.out) (.int .i64 v))
      obtain ⟨w_13, hw_13⟩ : ∃ q : World, w_12.setCell ⟨g, a + k, none⟩ (.int .i64 v) = q := ⟨_, rfl⟩
      rw [hw_13] at HO HW ⊢
      clear hw_13
      replace HX0 := hide (HXo.out.below HW.out)
      replace HL := hide (HLo.out.below HW.out)
      refine hK.out _ _ ⟨HX0.out.c5.2.1, HX0.out.c5.2.2.1, by rw [← HU.out]; exact intsAt_cell HL.out hlt⟩ (fun hHeld => ?_)
      clear hK K'
      try simp only [Act.put, List.setIfInBounds_toArray, List.set_cons_zero, List.set_cons_succ]
      refine wpAnyH_done (by kernel_rfl) ?_ _
      clear hHeld
      go_wp2_with fail
      go_roundw
      case rel => exact ⟨k + 1, by omega, by go_num, HO, HW⟩
      case measure => simp [Go.RowKit.intOf]; omega
    obtain rfl : k = 62 := by omega
    clear hlt hk
    have HX0 := hide (HXo.out.below (w' := wA) HW.out)
    clear HXS
    go_wp2_with fail
    refine (HCP.out _ _ ((ownInts_ints HO.out).weak (Nat.zero_le _))).mono ?_
    rintro e_ w_14 ⟨v1, rfl, ho1, hb_14⟩
    replace HX0 := hide (HX0.out.below hb_14)
    replace HO := hide (HO.out.below hb_14)
    replace HW := hide (HW.out.trans (hb_14.mono HW.out.size))
    clear hb_14
    obtain ⟨D, d, rfl, hd, hD⟩ := ho1.form
    have hd9 := ho1.cap_any.2
    replace hD := hD.weak (Nat.zero_le _)
    clear ho1
    go_wp2_with fail
    refine (HSE.out D d _ hd hd9 hD).mono ?_
    rintro e_ w_15 ⟨rfl, hb_15⟩
    replace HX0 := hide (HX0.out.below hb_15)
    replace HO := hide (HO.out.below hb_15)
    replace HW := hide (HW.out.trans (hb_15.mono HW.out.size))
    clear hb_15
    clear hD hd hd9 HSE HCP
    go_upto_region 14 with fail
    obtain ⟨g7, hg7⟩ : ∃ q, w_15.heap.size = q := ⟨_, rfl⟩
    obtain ⟨w_16, hw_16⟩ : ∃ q : World, q = w_15.alloc (.cells #[.int .i64 (a : Int), .int .i64 (i : Int), .int .i64 (62 * S)] 32) := ⟨_, rfl⟩
    try rw [← hw_16]
    have HX7 := hide (show Box w_16 g7 32 #[.int .i64 (a : Int), .int .i64 (i : Int), .int .i64 (62 * S)] by rw [hw_16]; exact Box.made hg7.symm)
    have hc_16 : Below w_15.heap.size w_15 w_16 := by rw [hw_16]; exact (Below.refl _ _).alloc (Nat.le_refl _) _
    clear hw_16
    replace HX0 := hide (HX0.out.below hc_16)
    replace HO := hide (HO.out.below hc_16)
    replace HW := hide (HW.out.trans (hc_16.mono HW.out.size))
    clear hc_16
    try simp only [hg7]
    clear hg7
    obtain ⟨x0, x1, x2, x3, x4, hlx⟩ := HX0.out.c5
    obtain ⟨y0, y1, y2, -, -, -, hly⟩ := HX7.out.cellsT
    go_wp2_with fail
    clear x0 x1 x2 x3 x4 hlx y0 y1 y2 hly HX7 HX0
    rw [← HY0.out] at HO
    clear HY0
    go_loopw [9] (fun s wr => ∃ k : Nat, k ≤ 62 ∧ k ≤ n ∧ s = .int .i64 (k : Int) ∧ Hid (∀ j, j < k → (-50000 ≤ F j ∧ F j ≤ 50000) ∧ 62 * F j < 11 * S ∧ -(62 * F j) < 11 * S) ∧ Hid (OwnInts wr g (.slice (some ⟨g, 0, none⟩) N N) N (Y k)) ∧ Hid (Below wO.heap.size wO wr)) (fun s _ => 62 - (Go.RowKit.intOf s).toNat)
    case atStart => exact ⟨0, by decide, Nat.zero_le _, rfl, hide (fun j hj => absurd hj (Nat.not_lt_zero j)), HO, HW⟩
    case round =>
      clear HO HW
      obtain ⟨k, hk, hkn, rfl, HER, HO, HW⟩ := hrel
      obtain ⟨wA, rfl⟩ : ∃ x : World, x = wr := ⟨_, rfl⟩
      by_cases hlt : k < n
      case neg =>
        have hltz : ¬ (k : Int) < (n : Int) := by omega
        clear hlt
        have HX0 := hide (HXo.out.below (w' := wA) HW.out)
        obtain ⟨x0, x1, x2, x3, x4, hlx⟩ := HX0.out.c5
        go_wp2_with fail
        clear x0 x1 x2 x3 x4 hlx
        refine (HIA.out k hk HER.out _ _ ((ownInts_ints HO.out).weak (Nat.zero_le _))).mono ?_
        rintro e_ w_17 ⟨rfl, hb_17⟩
        replace HX0 := hide (HX0.out.below hb_17)
        replace HO := hide (HO.out.below hb_17)
        replace HW := hide (HW.out.trans (hb_17.mono HW.out.size))
        clear hb_17
        clear HIA HER
        go_upto_region 23 with fail
        obtain ⟨g7, hg7⟩ : ∃ q, w_17.heap.size = q := ⟨_, rfl⟩
        obtain ⟨w_18, hw_18⟩ : ∃ q : World, q = w_17.alloc (.cells #[.int .i64 (a : Int), .int .i64 (i : Int), .int .i64 (idC N (Y k) (a : Int))] 32) := ⟨_, rfl⟩
        try rw [← hw_18]
        have HX7 := hide (show Box w_18 g7 32 #[.int .i64 (a : Int), .int .i64 (i : Int), .int .i64 (idC N (Y k) (a : Int))] by rw [hw_18]; exact Box.made hg7.symm)
        have hc_18 : Below w_17.heap.size w_17 w_18 := by rw [hw_18]; exact (Below.refl _ _).alloc (Nat.le_refl _) _
        clear hw_18
        replace HX0 := hide (HX0.out.below hc_18)
        replace HO := hide (HO.out.below hc_18)
        replace HW := hide (HW.out.trans (hc_18.mono HW.out.size))
        clear hc_18
        try simp only [hg7]
        clear hg7
        obtain ⟨x0, x1, x2, x3, x4, hlx⟩ := HX0.out.c5
        obtain ⟨y0, y1, y2, -, -, -, hly⟩ := HX7.out.cellsT
        go_wp2_with fail
        go_ret
        exact ⟨rfl, HBo.out.trans (HW.out.mono HBo.out.size)⟩
      have hltz : (k : Int) < (n : Int) := by omega
      by_cases hlt2 : k < 62
      case neg =>
        have hltz2 : ¬ (k : Int) < 62 := by omega
        have HX0 := hide (HXo.out.below (w' := wA) HW.out)
        obtain ⟨x0, x1, x2, x3, x4, hlx⟩ := HX0.out.c5
        go_wp2_with fail
        clear x0 x1 x2 x3 x4 hlx
        refine (HIA.out k hk HER.out _ _ ((ownInts_ints HO.out).weak (Nat.zero_le _))).mono ?_
        rintro e_ w_19 ⟨rfl, hb_19⟩
        replace HX0 := hide (HX0.out.below hb_19)
        replace HO := hide (HO.out.below hb_19)
        replace HW := hide (HW.out.trans (hb_19.mono HW.out.size))
        clear hb_19
        clear HIA HER
        go_upto_region 23 with fail
        obtain ⟨g7, hg7⟩ : ∃ q, w_19.heap.size = q := ⟨_, rfl⟩
        obtain ⟨w_20, hw_20⟩ : ∃ q : World, q = w_19.alloc (.cells #[.int .i64 (a : Int), .int .i64 (i : Int), .int .i64 (idC N (Y k) (a : Int))] 32) := ⟨_, rfl⟩
        try rw [← hw_20]
        have HX7 := hide (show Box w_20 g7 32 #[.int .i64 (a : Int), .int .i64 (i : Int), .int .i64 (idC N (Y k) (a : Int))] by rw [hw_20]; exact Box.made hg7.symm)
        have hc_20 : Below w_19.heap.size w_19 w_20 := by rw [hw_20]; exact (Below.refl _ _).alloc (Nat.le_refl _) _
        clear hw_20
        replace HX0 := hide (HX0.out.below hc_20)
        replace HO := hide (HO.out.below hc_20)
        replace HW := hide (HW.out.trans (hc_20.mono HW.out.size))
        clear hc_20
        try simp only [hg7]
        clear hg7
        obtain ⟨x0, x1, x2, x3, x4, hlx⟩ := HX0.out.c5
        obtain ⟨y0, y1, y2, -, -, -, hly⟩ := HX7.out.cellsT
        go_wp2_with fail
        go_ret
        exact ⟨rfl, HBo.out.trans (HW.out.mono HBo.out.size)⟩
      have hltz2 : (k : Int) < 62 := by omega
      have HX0 := hide (HXo.out.below (w' := wA) HW.out)
      have HI9 := hide (HI.out.below (HBo.out.trans (HW.out.mono HBo.out.size)))
      have HI8 := hide (HI.out.below HBo.out)
      obtain ⟨bl, ol, hbe, -, -, hcu⟩ := HI9.out k hlt
      subst hbe
      clear hcu
      obtain ⟨x, hx⟩ : ∃ z, F k = z := ⟨_, rfl⟩
      have HFX := hide hx
      have HWI := hide (fun W => within_any x (-50000) 50000 W)
      obtain ⟨x0, x1, x2, x3, x4, hlx⟩ := HX0.out.c5
      go_upto_region 19 with fail
      clear x0 x1 x2 x3 x4 hlx
      by_cases hwi : withinB x (-50000) 50000 = true
      case neg =>
        have e0 : withinB x (-50000) 50000 = false := by simpa using hwi
        replace HWI : Hid (∀ W, Calls Try.prog 7 #[.int .i64 x, .int .i64 (-50000), .int .i64 50000] W fun e w' => e = .returned (.bool false) ∧ W = w') := hide (fun W => by have := HWI.out W; rw [e0] at this; exact this)
        clear e0
        refine wp_region_held_drew (S := fun w' => w'.cell? ⟨w.heap.size, 1, none⟩ = some (.int .i64 S) ∧ w'.cell? ⟨w.heap.size, 4, none⟩ = some (.slice (some ⟨bl, ol, none⟩) n c) ∧ w'.cell? ⟨bl, ol + k, none⟩ = some (.int .i64 x)) (by kernel_rfl) ⟨HX0.out.c5.2.1, HX0.out.c5.2.2.2.2.1, by rw [← HFX.out]; exact intsAt_cell HI9.out hlt⟩ (fun hHeld => ?_)
        obtain ⟨w_21, hw_21⟩ : ∃ q : World, q = wA.drew := ⟨_, rfl⟩
        rw [← hw_21] at hHeld ⊢
        have hc_21 : Below wA.heap.size wA w_21 := by rw [hw_21]; exact (Below.refl _ _).drew
        clear hw_21
        replace HX0 := hide (HX0.out.below hc_21)
        replace HI9 := hide (HI9.out.below hc_21)
        replace HO := hide (HO.out.below hc_21)
        replace HW := hide (HW.out.trans (hc_21.mono HW.out.size))
        clear hc_21
        refine wpAnyH_take (i := 0) (oi := ⟨some 104, _, _, _, _, _⟩) (v := ?_) rfl (by kernel_rfl) (by kernel_rfl) (by kernel_rfl) (fun _ _ _ h => h) (Or.inl ⟨by rfl, ?_⟩) (by assumption) ?_
        rotate_left
        · (intro w' hSw; (try dsimp only at hSw); go_simp <;> (with_reducible rfl))
        try simp only [Act.put, List.setIfInBounds_toArray, List.set_cons_zero, List.set_cons_succ]
        refine wpAnyH_take (i := 1) (oi := ⟨some 105, _, _, _, _, _⟩) (v := ?_) rfl (by kernel_rfl) (by kernel_rfl) (by kernel_rfl) (fun _ _ _ h => h) (Or.inl ⟨by rfl, ?_⟩) (by assumption) ?_
        rotate_left
        · (intro w' hSw; (try dsimp only at hSw); go_simp <;> (with_reducible rfl))
        try simp only [Act.put, List.setIfInBounds_toArray, List.set_cons_zero, List.set_cons_succ]
        refine wpAnyH_take (i := 2) (oi := ⟨some 106, _, _, _, _, _⟩) (v := ?_) rfl (by kernel_rfl) (by kernel_rfl) (by kernel_rfl) (fun _ _ _ h => h) (Or.inl ⟨by rfl, ?_⟩) (by assumption) ?_
        rotate_left
        · (intro w' hSw; (try dsimp only at hSw); go_simp <;> (with_reducible rfl))
        try simp only [Act.put, List.setIfInBounds_toArray, List.set_cons_zero, List.set_cons_succ]
        refine wpAnyH_take (i := 3) (oi := ⟨some 107, _, _, _, _, _⟩) (v := ?_) rfl (by kernel_rfl) (by kernel_rfl) (by kernel_rfl) (fun _ _ _ h => h) (Or.inl ⟨by rfl, ?_⟩) (by assumption) ?_
        rotate_left
        · (intro w' hSw; (try dsimp only at hSw); go_simp <;> (with_reducible rfl))
        try simp only [Act.put, List.setIfInBounds_toArray, List.set_cons_zero, List.set_cons_succ]
        refine wpAnyH_take (i := 4) (oi := ⟨some 108, _, _, _, _, _⟩) (v := ?_) rfl (by kernel_rfl) (by kernel_rfl) (by kernel_rfl) (fun _ _ _ h => h) (Or.inl ⟨by rfl, ?_⟩) (by assumption) ?_
        rotate_left
        · (intro w' hSw; (try dsimp only at hSw); go_simp <;> (with_reducible rfl))
        try simp only [Act.put, List.setIfInBounds_toArray, List.set_cons_zero, List.set_cons_succ]
        refine wpAnyH_ready (rs := [5]) (by kernel_rfl) (by simp) ?_
        refine AllReadyH.cons (o := ⟨some 109, _, _, _, _, _⟩) rfl (fun K' hK => ?_) AllReadyH.nil
        go_simp
        go_at_call 7
        refine (HWI.out _).mono ?_
        rintro e_ v_ ⟨rfl, rfl⟩
        go_wp2_with fail
        refine hK.out _ _ ⟨HX0.out.c5.2.1, HX0.out.c5.2.2.2.2.1, by rw [← HFX.out]; exact intsAt_cell HI9.out hlt⟩ (fun hHeld => ?_)
        clear hK K'
        try simp only [Act.put, List.setIfInBounds_toArray, List.set_cons_zero, List.set_cons_succ]
        refine wpAnyH_take (i := 6) (oi := ⟨some 110, _, _, _, _, _⟩) (v := ?_) rfl (by kernel_rfl) (by kernel_rfl) (by kernel_rfl) (fun _ _ _ h => h) (Or.inl ⟨by rfl, ?_⟩) (by assumption) ?_
        rotate_left
        · (intro w' hSw; (try dsimp only at hSw); go_simp <;> (with_reducible rfl))
        try simp only [Act.put, List.setIfInBounds_toArray, List.set_cons_zero, List.set_cons_succ]
        refine wpAnyH_take (i := 7) (oi := ⟨some 111, _, _, _, _, _⟩) (v := ?_) rfl (by kernel_rfl) (by kernel_rfl) (by kernel_rfl) (fun _ _ _ h => h) (Or.inl ⟨by rfl, ?_⟩) (by assumption) ?_
        rotate_left
        · (intro w' hSw; (try dsimp only at hSw); go_simp <;> (with_reducible rfl))
        try simp only [Act.put, List.setIfInBounds_toArray, List.set_cons_zero, List.set_cons_succ]
        refine wpAnyH_take (i := 8) (oi := ⟨some 112, _, _, _, _, _⟩) (v := undef) rfl (by kernel_rfl) (by kernel_rfl) (by kernel_rfl) (fun _ _ _ h => h) (Or.inr ⟨by rfl, by rfl⟩) (by assumption) ?_
        try simp only [Act.put, List.setIfInBounds_toArray, List.set_cons_zero, List.set_cons_succ]
        refine wpAnyH_take (i := 9) (oi := ⟨some 113, _, _, _, _, _⟩) (v := undef) rfl (by kernel_rfl) (by kernel_rfl) (by kernel_rfl) (fun _ _ _ h => h) (Or.inr ⟨by rfl, by rfl⟩) (by assumption) ?_
        try simp only [Act.put, List.setIfInBounds_toArray, List.set_cons_zero, List.set_cons_succ]
        refine wpAnyH_take (i := 10) (oi := ⟨some 114, _, _, _, _, _⟩) (v := undef) rfl (by kernel_rfl) (by kernel_rfl) (by kernel_rfl) (fun _ _ _ h => h) (Or.inr ⟨by rfl, by rfl⟩) (by assumption) ?_
        try simp only [Act.put, List.setIfInBounds_toArray, List.set_cons_zero, List.set_cons_succ]
        refine wpAnyH_take (i := 11) (oi := ⟨some 115, _, _, _, _, _⟩) (v := undef) rfl (by kernel_rfl) (by kernel_rfl) (by kernel_rfl) (fun _ _ _ h => h) (Or.inr ⟨by rfl, by rfl⟩) (by assumption) ?_
        try simp only [Act.put, List.setIfInBounds_toArray, List.set_cons_zero, List.set_cons_succ]
        refine wpAnyH_take (i := 12) (oi := ⟨some 116, _, _, _, _, _⟩) (v := undef) rfl (by kernel_rfl) (by kernel_rfl) (by kernel_rfl) (fun _ _ _ h => h) (Or.inr ⟨by rfl, by rfl⟩) (by assumption) ?_
        try simp only [Act.put, List.setIfInBounds_toArray, List.set_cons_zero, List.set_cons_succ]
        refine wpAnyH_take (i := 13) (oi := ⟨some 117, _, _, _, _, _⟩) (v := undef) rfl (by kernel_rfl) (by kernel_rfl) (by kernel_rfl) (fun _ _ _ h => h) (Or.inr ⟨by rfl, by rfl⟩) (by assumption) ?_
        try simp only [Act.put, List.setIfInBounds_toArray, List.set_cons_zero, List.set_cons_succ]
        refine wpAnyH_take (i := 14) (oi := ⟨some 118, _, _, _, _, _⟩) (v := undef) rfl (by kernel_rfl) (by kernel_rfl) (by kernel_rfl) (fun _ _ _ h => h) (Or.inr ⟨by rfl, by rfl⟩) (by assumption) ?_
        try simp only [Act.put, List.setIfInBounds_toArray, List.set_cons_zero, List.set_cons_succ]
        refine wpAnyH_take (i := 15) (oi := ⟨some 119, _, _, _, _, _⟩) (v := undef) rfl (by kernel_rfl) (by kernel_rfl) (by kernel_rfl) (fun _ _ _ h => h) (Or.inr ⟨by rfl, by rfl⟩) (by assumption) ?_
        try simp only [Act.put, List.setIfInBounds_toArray, List.set_cons_zero, List.set_cons_succ]
        refine wpAnyH_take (i := 16) (oi := ⟨some 120, _, _, _, _, _⟩) (v := undef) rfl (by kernel_rfl) (by kernel_rfl) (by kernel_rfl) (fun _ _ _ h => h) (Or.inr ⟨by rfl, by rfl⟩) (by assumption) ?_
        try simp only [Act.put, List.setIfInBounds_toArray, List.set_cons_zero, List.set_cons_succ]
        refine wpAnyH_take (i := 17) (oi := ⟨some 121, _, _, _, _, _⟩) (v := undef) rfl (by kernel_rfl) (by kernel_rfl) (by kernel_rfl) (fun _ _ _ h => h) (Or.inr ⟨by rfl, by rfl⟩) (by assumption) ?_
        try simp only [Act.put, List.setIfInBounds_toArray, List.set_cons_zero, List.set_cons_succ]
        refine wpAnyH_take (i := 18) (oi := ⟨some 122, _, _, _, _, _⟩) (v := undef) rfl (by kernel_rfl) (by kernel_rfl) (by kernel_rfl) (fun _ _ _ h => h) (Or.inr ⟨by rfl, by rfl⟩) (by assumption) ?_
        try simp only [Act.put, List.setIfInBounds_toArray, List.set_cons_zero, List.set_cons_succ]
        refine wpAnyH_take (i := 19) (oi := ⟨some 123, _, _, _, _, _⟩) (v := undef) rfl (by kernel_rfl) (by kernel_rfl) (by kernel_rfl) (fun _ _ _ h => h) (Or.inr ⟨by rfl, by rfl⟩) (by assumption) ?_
        try simp only [Act.put, List.setIfInBounds_toArray, List.set_cons_zero, List.set_cons_succ]
        refine wpAnyH_take (i := 20) (oi := ⟨some 124, _, _, _, _, _⟩) (v := undef) rfl (by kernel_rfl) (by kernel_rfl) (by kernel_rfl) (fun _ _ _ h => h) (Or.inr ⟨by rfl, by rfl⟩) (by assumption) ?_
        try simp only [Act.put, List.setIfInBounds_toArray, List.set_cons_zero, List.set_cons_succ]
        refine wpAnyH_take (i := 21) (oi := ⟨some 125, _, _, _, _, _⟩) (v := undef) rfl (by kernel_rfl) (by kernel_rfl) (by kernel_rfl) (fun _ _ _ h => h) (Or.inr ⟨by rfl, by rfl⟩) (by assumption) ?_
        try simp only [Act.put, List.setIfInBounds_toArray, List.set_cons_zero, List.set_cons_succ]
        refine wpAnyH_take (i := 22) (oi := ⟨some 126, _, _, _, _, _⟩) (v := undef) rfl (by kernel_rfl) (by kernel_rfl) (by kernel_rfl) (fun _ _ _ h => h) (Or.inr ⟨by rfl, by rfl⟩) (by assumption) ?_
        try simp only [Act.put, List.setIfInBounds_toArray, List.set_cons_zero, List.set_cons_succ]
        refine wpAnyH_take (i := 23) (oi := ⟨some 127, _, _, _, _, _⟩) (v := undef) rfl (by kernel_rfl) (by kernel_rfl) (by kernel_rfl) (fun _ _ _ h => h) (Or.inr ⟨by rfl, by rfl⟩) (by assumption) ?_
        try simp only [Act.put, List.setIfInBounds_toArray, List.set_cons_zero, List.set_cons_succ]
        refine wpAnyH_take (i := 24) (oi := ⟨some 128, _, _, _, _, _⟩) (v := undef) rfl (by kernel_rfl) (by kernel_rfl) (by kernel_rfl) (fun _ _ _ h => h) (Or.inr ⟨by rfl, by rfl⟩) (by assumption) ?_
        try simp only [Act.put, List.setIfInBounds_toArray, List.set_cons_zero, List.set_cons_succ]
        refine wpAnyH_take (i := 25) (oi := ⟨some 129, _, _, _, _, _⟩) (v := ?_) rfl (by kernel_rfl) (by kernel_rfl) (by kernel_rfl) (fun _ _ _ h => h) (Or.inl ⟨by rfl, ?_⟩) (by assumption) ?_
        rotate_left
        · (intro w' hSw; (try dsimp only at hSw); go_simp <;> (with_reducible rfl))
        try simp only [Act.put, List.setIfInBounds_toArray, List.set_cons_zero, List.set_cons_succ]
        refine wpAnyH_done (by kernel_rfl) ?_ _
        clear hHeld
        go_wp2_with fail
        go_ret
        exact ⟨rfl, HBo.out.trans (HW.out.mono HBo.out.size)⟩
      replace HWI : Hid (∀ W, Calls Try.prog 7 #[.int .i64 x, .int .i64 (-50000), .int .i64 50000] W fun e w' => e = .returned (.bool true) ∧ W = w') := hide (fun W => by have := HWI.out W; rw [hwi] at this; exact this)
      have hxb : -50000 ≤ x ∧ x ≤ 50000 := by simpa [withinB] using hwi
      clear hwi
      have qn : IntKind.i64.wrap (-x) = -x := IntWalk.i64_in _ (by omega)
      have qm : IntKind.i64.wrap (62 * max x (-x)) = 62 * max x (-x) := IntWalk.i64_in _ (by omega)
      by_cases hge : 62 * max x (-x) ≥ 11 * S
      case pos =>
        refine wp_region_held_drew (S := fun w' => w'.cell? ⟨w.heap.size, 1, none⟩ = some (.int .i64 S) ∧ w'.cell? ⟨w.heap.size, 4, none⟩ = some (.slice (some ⟨bl, ol, none⟩) n c) ∧ w'.cell? ⟨bl, ol + k, none⟩ = some (.int .i64 x)) (by kernel_rfl) ⟨HX0.out.c5.2.1, HX0.out.c5.2.2.2.2.1, by rw [← HFX.out]; exact intsAt_cell HI9.out hlt⟩ (fun hHeld => ?_)
        obtain ⟨w_22, hw_22⟩ : ∃ q : World, q = wA.drew := ⟨_, rfl⟩
        rw [← hw_22] at hHeld ⊢
        have hc_22 : Below wA.heap.size wA w_22 := by rw [hw_22]; exact (Below.refl _ _).drew
        clear hw_22
        replace HX0 := hide (HX0.out.below hc_22)
        replace HI9 := hide (HI9.out.below hc_22)
        replace HO := hide (HO.out.below hc_22)
        replace HW := hide (HW.out.trans (hc_22.mono HW.out.size))
        clear hc_22
        refine wpAnyH_take (i := 0) (oi := ⟨some 104, _, _, _, _, _⟩) (v := ?_) rfl (by kernel_rfl) (by kernel_rfl) (by kernel_rfl) (fun _ _ _ h => h) (Or.inl ⟨by rfl, ?_⟩) (by assumption) ?_
        rotate_left
        · (intro w' hSw; (try dsimp only at hSw); go_simp <;> (with_reducible rfl))
        try simp only [Act.put, List.setIfInBounds_toArray, List.set_cons_zero, List.set_cons_succ]
        refine wpAnyH_take (i := 1) (oi := ⟨some 105, _, _, _, _, _⟩) (v := ?_) rfl (by kernel_rfl) (by kernel_rfl) (by kernel_rfl) (fun _ _ _ h => h) (Or.inl ⟨by rfl, ?_⟩) (by assumption) ?_
        rotate_left
        · (intro w' hSw; (try dsimp only at hSw); go_simp <;> (with_reducible rfl))
        try simp only [Act.put, List.setIfInBounds_toArray, List.set_cons_zero, List.set_cons_succ]
        refine wpAnyH_take (i := 2) (oi := ⟨some 106, _, _, _, _, _⟩) (v := ?_) rfl (by kernel_rfl) (by kernel_rfl) (by kernel_rfl) (fun _ _ _ h => h) (Or.inl ⟨by rfl, ?_⟩) (by assumption) ?_
        rotate_left
        · (intro w' hSw; (try dsimp only at hSw); go_simp <;> (with_reducible rfl))
        try simp only [Act.put, List.setIfInBounds_toArray, List.set_cons_zero, List.set_cons_succ]
        refine wpAnyH_take (i := 3) (oi := ⟨some 107, _, _, _, _, _⟩) (v := ?_) rfl (by kernel_rfl) (by kernel_rfl) (by kernel_rfl) (fun _ _ _ h => h) (Or.inl ⟨by rfl, ?_⟩) (by assumption) ?_
        rotate_left
        · (intro w' hSw; (try dsimp only at hSw); go_simp <;> (with_reducible rfl))
        try simp only [Act.put, List.setIfInBounds_toArray, List.set_cons_zero, List.set_cons_succ]
        refine wpAnyH_take (i := 4) (oi := ⟨some 108, _, _, _, _, _⟩) (v := ?_) rfl (by kernel_rfl) (by kernel_rfl) (by kernel_rfl) (fun _ _ _ h => h) (Or.inl ⟨by rfl, ?_⟩) (by assumption) ?_
        rotate_left
        · (intro w' hSw; (try dsimp only at hSw); go_simp <;> (with_reducible rfl))
        try simp only [Act.put, List.setIfInBounds_toArray, List.set_cons_zero, List.set_cons_succ]
        refine wpAnyH_ready (rs := [5]) (by kernel_rfl) (by simp) ?_
        refine AllReadyH.cons (o := ⟨some 109, _, _, _, _, _⟩) rfl (fun K' hK => ?_) AllReadyH.nil
        go_simp
        go_at_call 7
        refine (HWI.out _).mono ?_
        rintro e_ v_ ⟨rfl, rfl⟩
        go_wp2_with fail
        refine hK.out _ _ ⟨HX0.out.c5.2.1, HX0.out.c5.2.2.2.2.1, by rw [← HFX.out]; exact intsAt_cell HI9.out hlt⟩ (fun hHeld => ?_)
        clear hK K'
        try simp only [Act.put, List.setIfInBounds_toArray, List.set_cons_zero, List.set_cons_succ]
        refine wpAnyH_take (i := 6) (oi := ⟨some 110, _, _, _, _, _⟩) (v := ?_) rfl (by kernel_rfl) (by kernel_rfl) (by kernel_rfl) (fun _ _ _ h => h) (Or.inl ⟨by rfl, ?_⟩) (by assumption) ?_
        rotate_left
        · (intro w' hSw; (try dsimp only at hSw); go_simp <;> (with_reducible rfl))
        try simp only [Act.put, List.setIfInBounds_toArray, List.set_cons_zero, List.set_cons_succ]
        refine wpAnyH_take (i := 7) (oi := ⟨some 111, _, _, _, _, _⟩) (v := ?_) rfl (by kernel_rfl) (by kernel_rfl) (by kernel_rfl) (fun _ _ _ h => h) (Or.inl ⟨by rfl, ?_⟩) (by assumption) ?_
        rotate_left
        · (intro w' hSw; (try dsimp only at hSw); go_simp <;> (with_reducible rfl))
        try simp only [Act.put, List.setIfInBounds_toArray, List.set_cons_zero, List.set_cons_succ]
        refine wpAnyH_take (i := 8) (oi := ⟨some 112, _, _, _, _, _⟩) (v := ?_) rfl (by kernel_rfl) (by kernel_rfl) (by kernel_rfl) (fun _ _ _ h => h) (Or.inl ⟨by rfl, ?_⟩) (by assumption) ?_
        rotate_left
        · (intro w' hSw; (try dsimp only at hSw); go_simp <;> (with_reducible rfl))
        try simp only [Act.put, List.setIfInBounds_toArray, List.set_cons_zero, List.set_cons_succ]
        refine wpAnyH_take (i := 9) (oi := ⟨some 113, _, _, _, _, _⟩) (v := ?_) rfl (by kernel_rfl) (by kernel_rfl) (by kernel_rfl) (fun _ _ _ h => h) (Or.inl ⟨by rfl, ?_⟩) (by assumption) ?_
        rotate_left
        · (intro w' hSw; (try dsimp only at hSw); go_simp <;> (with_reducible rfl))
        try simp only [Act.put, List.setIfInBounds_toArray, List.set_cons_zero, List.set_cons_succ]
        refine wpAnyH_take (i := 10) (oi := ⟨some 114, _, _, _, _, _⟩) (v := ?_) rfl (by kernel_rfl) (by kernel_rfl) (by kernel_rfl) (fun _ _ _ h => h) (Or.inl ⟨by rfl, ?_⟩) (by assumption) ?_
        rotate_left
        · (intro w' hSw; (try dsimp only at hSw); go_simp <;> (with_reducible rfl))
        try simp only [Act.put, List.setIfInBounds_toArray, List.set_cons_zero, List.set_cons_succ]
        refine wpAnyH_take (i := 11) (oi := ⟨some 115, _, _, _, _, _⟩) (v := ?_) rfl (by kernel_rfl) (by kernel_rfl) (by kernel_rfl) (fun _ _ _ h => h) (Or.inl ⟨by rfl, ?_⟩) (by assumption) ?_
        rotate_left
        · (intro w' hSw; (try dsimp only at hSw); go_simp <;> (with_reducible rfl))
        try simp only [Act.put, List.setIfInBounds_toArray, List.set_cons_zero, List.set_cons_succ]
        refine wpAnyH_take (i := 12) (oi := ⟨some 116, _, _, _, _, _⟩) (v := ?_) rfl (by kernel_rfl) (by kernel_rfl) (by kernel_rfl) (fun _ _ _ h => h) (Or.inl ⟨by rfl, ?_⟩) (by assumption) ?_
        rotate_left
        · (intro w' hSw; (try dsimp only at hSw); go_simp <;> (with_reducible rfl))
        try simp only [Act.put, List.setIfInBounds_toArray, List.set_cons_zero, List.set_cons_succ]
        refine wpAnyH_take (i := 13) (oi := ⟨some 117, _, _, _, _, _⟩) (v := ?_) rfl (by kernel_rfl) (by kernel_rfl) (by kernel_rfl) (fun _ _ _ h => h) (Or.inl ⟨by rfl, ?_⟩) (by assumption) ?_
        rotate_left
        · (intro w' hSw; (try dsimp only at hSw); go_simp <;> (with_reducible rfl))
        try simp only [Act.put, List.setIfInBounds_toArray, List.set_cons_zero, List.set_cons_succ]
        refine wpAnyH_take (i := 14) (oi := ⟨some 118, _, _, _, _, _⟩) (v := ?_) rfl (by kernel_rfl) (by kernel_rfl) (by kernel_rfl) (fun _ _ _ h => h) (Or.inl ⟨by rfl, ?_⟩) (by assumption) ?_
        rotate_left
        · (intro w' hSw; (try dsimp only at hSw); go_simp <;> (with_reducible rfl))
        try simp only [Act.put, List.setIfInBounds_toArray, List.set_cons_zero, List.set_cons_succ]
        refine wpAnyH_take (i := 15) (oi := ⟨some 119, _, _, _, _, _⟩) (v := ?_) rfl (by kernel_rfl) (by kernel_rfl) (by kernel_rfl) (fun _ _ _ h => h) (Or.inl ⟨by rfl, ?_⟩) (by assumption) ?_
        rotate_left
        · (intro w' hSw; (try dsimp only at hSw); go_simp <;> (with_reducible rfl))
        try simp only [Act.put, List.setIfInBounds_toArray, List.set_cons_zero, List.set_cons_succ]
        refine wpAnyH_take (i := 16) (oi := ⟨some 120, _, _, _, _, _⟩) (v := ?_) rfl (by kernel_rfl) (by kernel_rfl) (by kernel_rfl) (fun _ _ _ h => h) (Or.inl ⟨by rfl, ?_⟩) (by assumption) ?_
        rotate_left
        · (intro w' hSw; (try dsimp only at hSw); go_simp <;> (with_reducible rfl))
        try simp only [Act.put, List.setIfInBounds_toArray, List.set_cons_zero, List.set_cons_succ]
        refine wpAnyH_take (i := 17) (oi := ⟨some 121, _, _, _, _, _⟩) (v := ?_) rfl (by kernel_rfl) (by kernel_rfl) (by kernel_rfl) (fun _ _ _ h => h) (Or.inl ⟨by rfl, ?_⟩) (by assumption) ?_
        rotate_left
        · (intro w' hSw; (try dsimp only at hSw); go_simp <;> (with_reducible rfl))
        try simp only [Act.put, List.setIfInBounds_toArray, List.set_cons_zero, List.set_cons_succ]
        refine wpAnyH_take (i := 18) (oi := ⟨some 122, _, _, _, _, _⟩) (v := ?_) rfl (by kernel_rfl) (by kernel_rfl) (by kernel_rfl) (fun _ _ _ h => h) (Or.inl ⟨by rfl, ?_⟩) (by assumption) ?_
        rotate_left
        · (intro w' hSw; (try dsimp only at hSw); go_simp <;> (with_reducible rfl))
        try simp only [Act.put, List.setIfInBounds_toArray, List.set_cons_zero, List.set_cons_succ]
        refine wpAnyH_take (i := 19) (oi := ⟨some 123, _, _, _, _, _⟩) (v := ?_) rfl (by kernel_rfl) (by kernel_rfl) (by kernel_rfl) (fun _ _ _ h => h) (Or.inl ⟨by rfl, ?_⟩) (by assumption) ?_
        rotate_left
        · (intro w' hSw; (try dsimp only at hSw); go_simp <;> (with_reducible rfl))
        try simp only [Act.put, List.setIfInBounds_toArray, List.set_cons_zero, List.set_cons_succ]
        refine wpAnyH_take (i := 20) (oi := ⟨some 124, _, _, _, _, _⟩) (v := ?_) rfl (by kernel_rfl) (by kernel_rfl) (by kernel_rfl) (fun _ _ _ h => h) (Or.inl ⟨by rfl, ?_⟩) (by assumption) ?_
        rotate_left
        · (intro w' hSw; (try dsimp only at hSw); go_simp <;> (with_reducible rfl))
        try simp only [Act.put, List.setIfInBounds_toArray, List.set_cons_zero, List.set_cons_succ]
        refine wpAnyH_take (i := 21) (oi := ⟨some 125, _, _, _, _, _⟩) (v := ?_) rfl (by kernel_rfl) (by kernel_rfl) (by kernel_rfl) (fun _ _ _ h => h) (Or.inl ⟨by rfl, ?_⟩) (by assumption) ?_
        rotate_left
        · (intro w' hSw; (try dsimp only at hSw); go_simp <;> (with_reducible rfl))
        try simp only [Act.put, List.setIfInBounds_toArray, List.set_cons_zero, List.set_cons_succ]
        refine wpAnyH_take (i := 22) (oi := ⟨some 126, _, _, _, _, _⟩) (v := ?_) rfl (by kernel_rfl) (by kernel_rfl) (by kernel_rfl) (fun _ _ _ h => h) (Or.inl ⟨by rfl, ?_⟩) (by assumption) ?_
        rotate_left
        · (intro w' hSw; (try dsimp only at hSw); go_simp <;> (with_reducible rfl))
        try simp only [Act.put, List.setIfInBounds_toArray, List.set_cons_zero, List.set_cons_succ]
        refine wpAnyH_take (i := 23) (oi := ⟨some 127, _, _, _, _, _⟩) (v := ?_) rfl (by kernel_rfl) (by kernel_rfl) (by kernel_rfl) (fun _ _ _ h => h) (Or.inl ⟨by rfl, ?_⟩) (by assumption) ?_
        rotate_left
        · (intro w' hSw; (try dsimp only at hSw); go_simp <;> (with_reducible rfl))
        try simp only [Act.put, List.setIfInBounds_toArray, List.set_cons_zero, List.set_cons_succ]
        refine wpAnyH_take (i := 24) (oi := ⟨some 128, _, _, _, _, _⟩) (v := ?_) rfl (by kernel_rfl) (by kernel_rfl) (by kernel_rfl) (fun _ _ _ h => h) (Or.inl ⟨by rfl, ?_⟩) (by assumption) ?_
        rotate_left
        · (intro w' hSw; (try dsimp only at hSw); go_simp <;> (with_reducible rfl))
        try simp only [Act.put, List.setIfInBounds_toArray, List.set_cons_zero, List.set_cons_succ]
        refine wpAnyH_take (i := 25) (oi := ⟨some 129, _, _, _, _, _⟩) (v := ?_) rfl (by kernel_rfl) (by kernel_rfl) (by kernel_rfl) (fun _ _ _ h => h) (Or.inl ⟨by rfl, ?_⟩) (by assumption) ?_
        rotate_left
        · (intro w' hSw; (try dsimp only at hSw); go_simp <;> (with_reducible rfl))
        try simp only [Act.put, List.setIfInBounds_toArray, List.set_cons_zero, List.set_cons_succ]
        refine wpAnyH_done (by kernel_rfl) ?_ _
        clear hHeld
        go_wp2_with fail
        go_ret
        exact ⟨rfl, HBo.out.trans (HW.out.mono HBo.out.size)⟩
      have hE : ∀ j, j < k + 1 → (-50000 ≤ F j ∧ F j ≤ 50000) ∧ 62 * F j < 11 * S ∧ -(62 * F j) < 11 * S := fun j hj => by
        by_cases e : j = k
        · subst e; rw [HFX.out]; omega
        · exact HER.out j (by omega)
      have HE2 := hide hE
      clear hE HER
      obtain ⟨y, hy⟩ : ∃ z, S * seqF i k = z := ⟨_, rfl⟩
      have hyb : -50000 ≤ y ∧ y ≤ 50000 := by rw [← hy]; rcases HSG.out k hlt2 with e | e <;> rw [e] <;> omega
      have HS := hide (HYS.out k hlt2)
      have HN := hide (HYN.out k hlt2)
      rw [hy] at HS HN
      rw [hx] at HS
      have qy : IntKind.i64.wrap (y + x) = y + x := IntWalk.i64_in _ (by omega)
      have q2 : IntKind.i64.wrap ((a : Int) + (k : Int)) = (a : Int) + (k : Int) := IntWalk.i64_in _ (by omega)
      have htz : (a : Int) + (k : Int) < (N : Int) := by omega
      have htz0 : 0 ≤ (a : Int) + (k : Int) := by omega
      have qt : ((a : Int) + (k : Int)).toNat = a + k := by omega
      clear hy
      refine wp_region_held_drew (S := fun w' => w'.cell? ⟨w.heap.size, 1, none⟩ = some (.int .i64 S) ∧ w'.cell? ⟨w.heap.size, 4, none⟩ = some (.slice (some ⟨bl, ol, none⟩) n c) ∧ w'.cell? ⟨bl, ol + k, none⟩ = some (.int .i64 x)) (by kernel_rfl) ⟨HX0.out.c5.2.1, HX0.out.c5.2.2.2.2.1, by rw [← HFX.out]; exact intsAt_cell HI9.out hlt⟩ (fun hHeld => ?_)
      obtain ⟨w_23, hw_23⟩ : ∃ q : World, q = wA.drew := ⟨_, rfl⟩
      rw [← hw_23] at hHeld ⊢
      have hc_23 : Below wA.heap.size wA w_23 := by rw [hw_23]; exact (Below.refl _ _).drew
      clear hw_23
      replace HX0 := hide (HX0.out.below hc_23)
      replace HI9 := hide (HI9.out.below hc_23)
      replace HO := hide (HO.out.below hc_23)
      replace HW := hide (HW.out.trans (hc_23.mono HW.out.size))
      clear hc_23
      refine wpAnyH_take (i := 0) (oi := ⟨some 104, _, _, _, _, _⟩) (v := ?_) rfl (by kernel_rfl) (by kernel_rfl) (by kernel_rfl) (fun _ _ _ h => h) (Or.inl ⟨by rfl, ?_⟩) (by assumption) ?_
      rotate_left
      · (intro w' hSw; (try dsimp only at hSw); go_simp <;> (with_reducible rfl))
      try simp only [Act.put, List.setIfInBounds_toArray, List.set_cons_zero, List.set_cons_succ]
      refine wpAnyH_take (i := 1) (oi := ⟨some 105, _, _, _, _, _⟩) (v := ?_) rfl (by kernel_rfl) (by kernel_rfl) (by kernel_rfl) (fun _ _ _ h => h) (Or.inl ⟨by rfl, ?_⟩) (by assumption) ?_
      rotate_left
      · (intro w' hSw; (try dsimp only at hSw); go_simp <;> (with_reducible rfl))
      try simp only [Act.put, List.setIfInBounds_toArray, List.set_cons_zero, List.set_cons_succ]
      refine wpAnyH_take (i := 2) (oi := ⟨some 106, _, _, _, _, _⟩) (v := ?_) rfl (by kernel_rfl) (by kernel_rfl) (by kernel_rfl) (fun _ _ _ h => h) (Or.inl ⟨by rfl, ?_⟩) (by assumption) ?_
      rotate_left
      · (intro w' hSw; (try dsimp only at hSw); go_simp <;> (with_reducible rfl))
      try simp only [Act.put, List.setIfInBounds_toArray, List.set_cons_zero, List.set_cons_succ]
      refine wpAnyH_take (i := 3) (oi := ⟨some 107, _, _, _, _, _⟩) (v := ?_) rfl (by kernel_rfl) (by kernel_rfl) (by kernel_rfl) (fun _ _ _ h => h) (Or.inl ⟨by rfl, ?_⟩) (by assumption) ?_
      rotate_left
      · (intro w' hSw; (try dsimp only at hSw); go_simp <;> (with_reducible rfl))
      try simp only [Act.put, List.setIfInBounds_toArray, List.set_cons_zero, List.set_cons_succ]
      refine wpAnyH_take (i := 4) (oi := ⟨some 108, _, _, _, _, _⟩) (v := ?_) rfl (by kernel_rfl) (by kernel_rfl) (by kernel_rfl) (fun _ _ _ h => h) (Or.inl ⟨by rfl, ?_⟩) (by assumption) ?_
      rotate_left
      · (intro w' hSw; (try dsimp only at hSw); go_simp <;> (with_reducible rfl))
      try simp only [Act.put, List.setIfInBounds_toArray, List.set_cons_zero, List.set_cons_succ]
      refine wpAnyH_ready (rs := [5]) (by kernel_rfl) (by simp) ?_
      refine AllReadyH.cons (o := ⟨some 109, _, _, _, _, _⟩) rfl (fun K' hK => ?_) AllReadyH.nil
      go_simp
      go_at_call 7
      refine (HWI.out _).mono ?_
      rintro e_ v_ ⟨rfl, rfl⟩
      go_wp2_with fail
      refine hK.out _ _ ⟨HX0.out.c5.2.1, HX0.out.c5.2.2.2.2.1, by rw [← HFX.out]; exact intsAt_cell HI9.out hlt⟩ (fun hHeld => ?_)
      clear hK K'
      try simp only [Act.put, List.setIfInBounds_toArray, List.set_cons_zero, List.set_cons_succ]
      refine wpAnyH_take (i := 6) (oi := ⟨some 110, _, _, _, _, _⟩) (v := ?_) rfl (by kernel_rfl) (by kernel_rfl) (by kernel_rfl) (fun _ _ _ h => h) (Or.inl ⟨by rfl, ?_⟩) (by assumption) ?_
      rotate_left
      · (intro w' hSw; (try dsimp only at hSw); go_simp <;> (with_reducible rfl))
      try simp only [Act.put, List.setIfInBounds_toArray, List.set_cons_zero, List.set_cons_succ]
      refine wpAnyH_take (i := 7) (oi := ⟨some 111, _, _, _, _, _⟩) (v := ?_) rfl (by kernel_rfl) (by kernel_rfl) (by kernel_rfl) (fun _ _ _ h => h) (Or.inl ⟨by rfl, ?_⟩) (by assumption) ?_
      rotate_left
      · (intro w' hSw; (try dsimp only at hSw); go_simp <;> (with_reducible rfl))
      try simp only [Act.put, List.setIfInBounds_toArray, List.set_cons_zero, List.set_cons_succ]
      refine wpAnyH_take (i := 8) (oi := ⟨some 112, _, _, _, _, _⟩) (v := ?_) rfl (by kernel_rfl) (by kernel_rfl) (by kernel_rfl) (fun _ _ _ h => h) (Or.inl ⟨by rfl, ?_⟩) (by assumption) ?_
      rotate_left
      · (intro w' hSw; (try dsimp only at hSw); go_simp <;> (with_reducible rfl))
      try simp only [Act.put, List.setIfInBounds_toArray, List.set_cons_zero, List.set_cons_succ]
      refine wpAnyH_take (i := 9) (oi := ⟨some 113, _, _, _, _, _⟩) (v := ?_) rfl (by kernel_rfl) (by kernel_rfl) (by kernel_rfl) (fun _ _ _ h => h) (Or.inl ⟨by rfl, ?_⟩) (by assumption) ?_
      rotate_left
      · (intro w' hSw; (try dsimp only at hSw); go_simp <;> (with_reducible rfl))
      try simp only [Act.put, List.setIfInBounds_toArray, List.set_cons_zero, List.set_cons_succ]
      refine wpAnyH_take (i := 10) (oi := ⟨some 114, _, _, _, _, _⟩) (v := ?_) rfl (by kernel_rfl) (by kernel_rfl) (by kernel_rfl) (fun _ _ _ h => h) (Or.inl ⟨by rfl, ?_⟩) (by assumption) ?_
      rotate_left
      · (intro w' hSw; (try dsimp only at hSw); go_simp <;> (with_reducible rfl))
      try simp only [Act.put, List.setIfInBounds_toArray, List.set_cons_zero, List.set_cons_succ]
      refine wpAnyH_take (i := 11) (oi := ⟨some 115, _, _, _, _, _⟩) (v := ?_) rfl (by kernel_rfl) (by kernel_rfl) (by kernel_rfl) (fun _ _ _ h => h) (Or.inl ⟨by rfl, ?_⟩) (by assumption) ?_
      rotate_left
      · (intro w' hSw; (try dsimp only at hSw); go_simp <;> (with_reducible rfl))
      try simp only [Act.put, List.setIfInBounds_toArray, List.set_cons_zero, List.set_cons_succ]
      refine wpAnyH_take (i := 12) (oi := ⟨some 116, _, _, _, _, _⟩) (v := ?_) rfl (by kernel_rfl) (by kernel_rfl) (by kernel_rfl) (fun _ _ _ h => h) (Or.inl ⟨by rfl, ?_⟩) (by assumption) ?_
      rotate_left
      · (intro w' hSw; (try dsimp only at hSw); go_simp <;> (with_reducible rfl))
      try simp only [Act.put, List.setIfInBounds_toArray, List.set_cons_zero, List.set_cons_succ]
      refine wpAnyH_take (i := 13) (oi := ⟨some 117, _, _, _, _, _⟩) (v := ?_) rfl (by kernel_rfl) (by kernel_rfl) (by kernel_rfl) (fun _ _ _ h => h) (Or.inl ⟨by rfl, ?_⟩) (by assumption) ?_
      rotate_left
      · (intro w' hSw; (try dsimp only at hSw); go_simp <;> (with_reducible rfl))
      try simp only [Act.put, List.setIfInBounds_toArray, List.set_cons_zero, List.set_cons_succ]
      refine wpAnyH_take (i := 14) (oi := ⟨some 118, _, _, _, _, _⟩) (v := ?_) rfl (by kernel_rfl) (by kernel_rfl) (by kernel_rfl) (fun _ _ _ h => h) (Or.inl ⟨by rfl, ?_⟩) (by assumption) ?_
      rotate_left
      · (intro w' hSw; (try dsimp only at hSw); go_simp <;> (with_reducible rfl))
      try simp only [Act.put, List.setIfInBounds_toArray, List.set_cons_zero, List.set_cons_succ]
      refine wpAnyH_take (i := 15) (oi := ⟨some 119, _, _, _, _, _⟩) (v := ?_) rfl (by kernel_rfl) (by kernel_rfl) (by kernel_rfl) (fun _ _ _ h => h) (Or.inl ⟨by rfl, ?_⟩) (by assumption) ?_
      rotate_left
      · (intro w' hSw; (try dsimp only at hSw); go_simp <;> (with_reducible rfl))
      try simp only [Act.put, List.setIfInBounds_toArray, List.set_cons_zero, List.set_cons_succ]
      refine wpAnyH_take (i := 16) (oi := ⟨some 120, _, _, _, _, _⟩) (v := ?_) rfl (by kernel_rfl) (by kernel_rfl) (by kernel_rfl) (fun _ _ _ h => h) (Or.inl ⟨by rfl, ?_⟩) (by assumption) ?_
      rotate_left
      · (intro w' hSw; (try dsimp only at hSw); go_simp <;> (with_reducible rfl))
      try simp only [Act.put, List.setIfInBounds_toArray, List.set_cons_zero, List.set_cons_succ]
      refine wpAnyH_take (i := 17) (oi := ⟨some 121, _, _, _, _, _⟩) (v := ?_) rfl (by kernel_rfl) (by kernel_rfl) (by kernel_rfl) (fun _ _ _ h => h) (Or.inl ⟨by rfl, ?_⟩) (by assumption) ?_
      rotate_left
      · (intro w' hSw; (try dsimp only at hSw); go_simp <;> (with_reducible rfl))
      try simp only [Act.put, List.setIfInBounds_toArray, List.set_cons_zero, List.set_cons_succ]
      refine wpAnyH_take (i := 18) (oi := ⟨some 122, _, _, _, _, _⟩) (v := ?_) rfl (by kernel_rfl) (by kernel_rfl) (by kernel_rfl) (fun _ _ _ h => h) (Or.inl ⟨by rfl, ?_⟩) (by assumption) ?_
      rotate_left
      · (intro w' hSw; (try dsimp only at hSw); go_simp <;> (with_reducible rfl))
      try simp only [Act.put, List.setIfInBounds_toArray, List.set_cons_zero, List.set_cons_succ]
      refine wpAnyH_take (i := 19) (oi := ⟨some 123, _, _, _, _, _⟩) (v := ?_) rfl (by kernel_rfl) (by kernel_rfl) (by kernel_rfl) (fun _ _ _ h => h) (Or.inl ⟨by rfl, ?_⟩) (by assumption) ?_
      rotate_left
      · (intro w' hSw; (try dsimp only at hSw); go_simp <;> (with_reducible rfl))
      try simp only [Act.put, List.setIfInBounds_toArray, List.set_cons_zero, List.set_cons_succ]
      refine wpAnyH_take (i := 20) (oi := ⟨some 124, _, _, _, _, _⟩) (v := ?_) rfl (by kernel_rfl) (by kernel_rfl) (by kernel_rfl) (fun _ _ _ h => h) (Or.inl ⟨by rfl, ?_⟩) (by assumption) ?_
      rotate_left
      · (intro w' hSw; (try dsimp only at hSw); go_simp <;> (with_reducible rfl))
      try simp only [Act.put, List.setIfInBounds_toArray, List.set_cons_zero, List.set_cons_succ]
      refine wpAnyH_take (i := 21) (oi := ⟨some 125, _, _, _, _, _⟩) (v := ?_) rfl (by kernel_rfl) (by kernel_rfl) (by kernel_rfl) (fun _ _ _ h => h) (Or.inl ⟨by rfl, ?_⟩) (by assumption) ?_
      rotate_left
      · (intro w' hSw; (try dsimp only at hSw); go_simp <;> (with_reducible rfl))
      try simp only [Act.put, List.setIfInBounds_toArray, List.set_cons_zero, List.set_cons_succ]
      refine wpAnyH_take (i := 22) (oi := ⟨some 126, _, _, _, _, _⟩) (v := ?_) rfl (by kernel_rfl) (by kernel_rfl) (by kernel_rfl) (fun _ _ _ h => h) (Or.inl ⟨by rfl, ?_⟩) (by assumption) ?_
      rotate_left
      · (intro w' hSw; (try dsimp only at hSw); go_simp <;> (with_reducible rfl))
      try simp only [Act.put, List.setIfInBounds_toArray, List.set_cons_zero, List.set_cons_succ]
      refine wpAnyH_take (i := 23) (oi := ⟨some 127, _, _, _, _, _⟩) (v := ?_) rfl (by kernel_rfl) (by kernel_rfl) (by kernel_rfl) (fun _ _ _ h => h) (Or.inl ⟨by rfl, ?_⟩) (by assumption) ?_
      rotate_left
      · (intro w' hSw; (try dsimp only at hSw); go_simp <;> (with_reducible rfl))
      try simp only [Act.put, List.setIfInBounds_toArray, List.set_cons_zero, List.set_cons_succ]
      refine wpAnyH_take (i := 24) (oi := ⟨some 128, _, _, _, _, _⟩) (v := ?_) rfl (by kernel_rfl) (by kernel_rfl) (by kernel_rfl) (fun _ _ _ h => h) (Or.inl ⟨by rfl, ?_⟩) (by assumption) ?_
      rotate_left
      · (intro w' hSw; (try dsimp only at hSw); go_simp <;> (with_reducible rfl))
      try simp only [Act.put, List.setIfInBounds_toArray, List.set_cons_zero, List.set_cons_succ]
      refine wpAnyH_take (i := 25) (oi := ⟨some 129, _, _, _, _, _⟩) (v := ?_) rfl (by kernel_rfl) (by kernel_rfl) (by kernel_rfl) (fun _ _ _ h => h) (Or.inl ⟨by rfl, ?_⟩) (by assumption) ?_
      rotate_left
      · (intro w' hSw; (try dsimp only at hSw); go_simp <;> (with_reducible rfl))
      try simp only [Act.put, List.setIfInBounds_toArray, List.set_cons_zero, List.set_cons_succ]
      refine wpAnyH_done (by kernel_rfl) ?_ _
      clear hHeld
      go_upto_region 21 with fail
      refine wp_region_held_drew (S := fun w' => w'.cell? ⟨w.heap.size, 2, none⟩ = some (.int .i64 (a : Int)) ∧ w'.cell? ⟨w.heap.size, 4, none⟩ = some (.slice (some ⟨bl, ol, none⟩) n c) ∧ w'.cell? ⟨bl, ol + k, none⟩ = some (.int .i64 x)) (by kernel_rfl) ⟨HX0.out.c5.2.2.1, HX0.out.c5.2.2.2.2.1, by rw [← HFX.out]; exact intsAt_cell HI9.out hlt⟩ (fun hHeld => ?_)
      obtain ⟨w_24, hw_24⟩ : ∃ q : World, q = w_23.drew := ⟨_, rfl⟩
      rw [← hw_24] at hHeld ⊢
      have hc_24 : Below w_23.heap.size w_23 w_24 := by rw [hw_24]; exact (Below.refl _ _).drew
      clear hw_24
      replace HX0 := hide (HX0.out.below hc_24)
      replace HI9 := hide (HI9.out.below hc_24)
      replace HO := hide (HO.out.below hc_24)
      replace HW := hide (HW.out.trans (hc_24.mono HW.out.size))
      clear hc_24
      refine wpAnyH_take (i := 0) (oi := ⟨some 130, _, _, _, _, _⟩) (v := ?_) rfl (by kernel_rfl) (by kernel_rfl) (by kernel_rfl) (fun _ _ _ h => h) (Or.inl ⟨by rfl, ?_⟩) (by assumption) ?_
      rotate_left
      · (intro w' hSw; (try dsimp only at hSw); go_simp <;> (with_reducible rfl))
      try simp only [Act.put, List.setIfInBounds_toArray, List.set_cons_zero, List.set_cons_succ]
      refine wpAnyH_take (i := 1) (oi := ⟨some 131, _, _, _, _, _⟩) (v := ?_) rfl (by kernel_rfl) (by kernel_rfl) (by kernel_rfl) (fun _ _ _ h => h) (Or.inl ⟨by rfl, ?_⟩) (by assumption) ?_
      rotate_left
      · (intro w' hSw; (try dsimp only at hSw); go_simp <;> (with_reducible rfl))
      try simp only [Act.put, List.setIfInBounds_toArray, List.set_cons_zero, List.set_cons_succ]
      refine wpAnyH_take (i := 2) (oi := ⟨some 132, _, _, _, _, _⟩) (v := ?_) rfl (by kernel_rfl) (by kernel_rfl) (by kernel_rfl) (fun _ _ _ h => h) (Or.inl ⟨by rfl, ?_⟩) (by assumption) ?_
      rotate_left
      · (intro w' hSw; (try dsimp only at hSw); go_simp <;> (with_reducible rfl))
      try simp only [Act.put, List.setIfInBounds_toArray, List.set_cons_zero, List.set_cons_succ]
      refine wpAnyH_take (i := 3) (oi := ⟨some 133, _, _, _, _, _⟩) (v := ?_) rfl (by kernel_rfl) (by kernel_rfl) (by kernel_rfl) (fun _ _ _ h => h) (Or.inl ⟨by rfl, ?_⟩) (by assumption) ?_
      rotate_left
      · (intro w' hSw; (try dsimp only at hSw); go_simp <;> (with_reducible rfl))
      try simp only [Act.put, List.setIfInBounds_toArray, List.set_cons_zero, List.set_cons_succ]
      refine wpAnyH_take (i := 4) (oi := ⟨some 134, _, _, _, _, _⟩) (v := ?_) rfl (by kernel_rfl) (by kernel_rfl) (by kernel_rfl) (fun _ _ _ h => h) (Or.inl ⟨by rfl, ?_⟩) (by assumption) ?_
      rotate_left
      · (intro w' hSw; (try dsimp only at hSw); go_simp <;> (with_reducible rfl))
      try simp only [Act.put, List.setIfInBounds_toArray, List.set_cons_zero, List.set_cons_succ]
      refine wpAnyH_take (i := 5) (oi := ⟨some 135, _, _, _, _, _⟩) (v := ?_) rfl (by kernel_rfl) (by kernel_rfl) (by kernel_rfl) (fun _ _ _ h => h) (Or.inl ⟨by rfl, ?_⟩) (by assumption) ?_
      rotate_left
      · (intro w' hSw; (try dsimp only at hSw); go_simp <;> (with_reducible rfl))
      try simp only [Act.put, List.setIfInBounds_toArray, List.set_cons_zero, List.set_cons_succ]
      refine wpAnyH_take (i := 6) (oi := ⟨some 136, _, _, _, _, _⟩) (v := ?_) rfl (by kernel_rfl) (by kernel_rfl) (by kernel_rfl) (fun _ _ _ h => h) (Or.inl ⟨by rfl, ?_⟩) (by assumption) ?_
      rotate_left
      · (intro w' hSw; (try dsimp only at hSw); go_simp <;> (with_reducible rfl))
      try simp only [Act.put, List.setIfInBounds_toArray, List.set_cons_zero, List.set_cons_succ]
      refine wpAnyH_take (i := 7) (oi := ⟨some 137, _, _, _, _, _⟩) (v := ?_) rfl (by kernel_rfl) (by kernel_rfl) (by kernel_rfl) (fun _ _ _ h => h) (Or.inl ⟨by rfl, ?_⟩) (by assumption) ?_
      rotate_left
      · (intro w' hSw; (try dsimp only at hSw); go_simp <;> (with_reducible rfl))
      try simp only [Act.put, List.setIfInBounds_toArray, List.set_cons_zero, List.set_cons_succ]
      refine wpAnyH_take (i := 8) (oi := ⟨some 138, _, _, _, _, _⟩) (v := ?_) rfl (by kernel_rfl) (by kernel_rfl) (by kernel_rfl) (fun _ _ _ h => h) (Or.inl ⟨by rfl, ?_⟩) (by assumption) ?_
      rotate_left
      · (intro w' hSw; (try dsimp only at hSw); go_simp <;> (with_reducible rfl))
      try simp only [Act.put, List.setIfInBounds_toArray, List.set_cons_zero, List.set_cons_succ]
      refine wpAnyH_take (i := 9) (oi := ⟨some 139, _, _, _, _, _⟩) (v := ?_) rfl (by kernel_rfl) (by kernel_rfl) (by kernel_rfl) (fun _ _ _ h => h) (Or.inl ⟨by rfl, ?_⟩) (by assumption) ?_
      rotate_left
      · (intro w' hSw; (try dsimp only at hSw); go_simp <;> (with_reducible rfl))
      try simp only [Act.put, List.setIfInBounds_toArray, List.set_cons_zero, List.set_cons_succ]
      refine wpAnyH_take (i := 10) (oi := ⟨some 140, _, _, _, _, _⟩) (v := ?_) rfl (by kernel_rfl) (by kernel_rfl) (by kernel_rfl) (fun _ _ _ h => h) (Or.inl ⟨by rfl, ?_⟩) (by assumption) ?_
      rotate_left
      · (intro w' hSw; (try dsimp only at hSw); go_simp <;> (with_reducible rfl))
      try simp only [Act.put, List.setIfInBounds_toArray, List.set_cons_zero, List.set_cons_succ]
      refine wpAnyH_take (i := 12) (oi := ⟨some 142, _, _, _, _, _⟩) (v := ?_) rfl (by kernel_rfl) (by kernel_rfl) (by kernel_rfl) (fun _ _ _ h => h) (Or.inl ⟨by rfl, ?_⟩) (by assumption) ?_
      rotate_left
      · (intro w' hSw; (try dsimp only at hSw); go_simp <;> (with_reducible rfl))
      try simp only [Act.put, List.setIfInBounds_toArray, List.set_cons_zero, List.set_cons_succ]
      refine wpAnyH_take (i := 13) (oi := ⟨some 143, _, _, _, _, _⟩) (v := ?_) rfl (by kernel_rfl) (by kernel_rfl) (by kernel_rfl) (fun _ _ _ h => h) (Or.inl ⟨by rfl, ?_⟩) (by assumption) ?_
      rotate_left
      · (intro w' hSw; (try dsimp only at hSw); go_simp <;> (with_reducible rfl))
      try simp only [Act.put, List.setIfInBounds_toArray, List.set_cons_zero, List.set_cons_succ]
      refine wpAnyH_take (i := 14) (oi := ⟨some 144, _, _, _, _, _⟩) (v := ?_) rfl (by kernel_rfl) (by kernel_rfl) (by kernel_rfl) (fun _ _ _ h => h) (Or.inl ⟨by rfl, ?_⟩) (by assumption) ?_
      rotate_left
      · (intro w' hSw; (try dsimp only at hSw); go_simp <;> (with_reducible rfl))
      try simp only [Act.put, List.setIfInBounds_toArray, List.set_cons_zero, List.set_cons_succ]
      refine wpAnyH_take (i := 15) (oi := ⟨some 145, _, _, _, _, _⟩) (v := ?_) rfl (by kernel_rfl) (by kernel_rfl) (by kernel_rfl) (fun _ _ _ h => h) (Or.inl ⟨by rfl, ?_⟩) (by assumption) ?_
      rotate_left
      · (intro w' hSw; (try dsimp only at hSw); go_simp <;> (with_reducible rfl))
      try simp only [Act.put, List.setIfInBounds_toArray, List.set_cons_zero, List.set_cons_succ]
      refine wpAnyH_take (i := 16) (oi := ⟨some 146, _, _, _, _, _⟩) (v := ?_) rfl (by kernel_rfl) (by kernel_rfl) (by kernel_rfl) (fun _ _ _ h => h) (Or.inl ⟨by rfl, ?_⟩) (by assumption) ?_
      rotate_left
      · (intro w' hSw; (try dsimp only at hSw); go_simp <;> (with_reducible rfl))
      try simp only [Act.put, List.setIfInBounds_toArray, List.set_cons_zero, List.set_cons_succ]
      refine wpAnyH_ready (rs := [11]) (by kernel_rfl) (by simp) ?_
      refine AllReadyH.cons (o := ⟨some 141, _, _, _, _, _⟩) rfl (fun K' hK => ?_) AllReadyH.nil
      have c0 := HO.out.cellAt (k := a + k) (by omega)
      rw [HN.out] at c0
      go_simp
      clear c0
      refine hK.out _ _ ⟨HX0.out.c5.2.2.1, HX0.out.c5.2.2.2.2.1, by rw [← HFX.out]; exact intsAt_cell HI9.out hlt⟩ (fun hHeld => ?_)
      clear hK K'
      try simp only [Act.put, List.setIfInBounds_toArray, List.set_cons_zero, List.set_cons_succ]
      refine wpAnyH_take (i := 17) (oi := ⟨some 147, _, _, _, _, _⟩) (v := ?_) rfl (by kernel_rfl) (by kernel_rfl) (by kernel_rfl) (fun _ _ _ h => h) (Or.inl ⟨by rfl, ?_⟩) (by assumption) ?_
      rotate_left
      · (intro w' hSw; (try dsimp only at hSw); go_simp <;> (with_reducible rfl))
      try simp only [Act.put, List.setIfInBounds_toArray, List.set_cons_zero, List.set_cons_succ]
      refine wpAnyH_take (i := 18) (oi := ⟨some 148, _, _, _, _, _⟩) (v := ?_) rfl (by kernel_rfl) (by kernel_rfl) (by kernel_rfl) (fun _ _ _ h => h) (Or.inl ⟨by rfl, ?_⟩) (by assumption) ?_
      rotate_left
      · (intro w' hSw; (try dsimp only at hSw); go_simp <;> (with_reducible rfl))
      try simp only [Act.put, List.setIfInBounds_toArray, List.set_cons_zero, List.set_cons_succ]
      refine wpAnyH_ready (rs := [19]) (by kernel_rfl) (by simp) ?_
      refine AllReadyH.cons (o := ⟨none, _, _, _, _, _⟩) rfl (fun K' hK => ?_) AllReadyH.nil
      have c0 := HO.out.cellAt (k := a + k) (by omega)
      have f0 := HO.out.frozen (a + k)
      go_simp
      clear c0 f0
      replace HO := hide (HO.out.set_ (a + k) (y + x))
      rw [HS.out] at HO
      replace HW := hide (HW.out.setCell (p := ⟨g, a + k, none⟩) (Nat.le_of_eq HG.out) (.int .i64 (y + x)))
      obtain ⟨w_25, hw_25⟩ : ∃ q : World, w_24.setCell ⟨g, a + k, none⟩ (.int .i64 (y + x)) = q := ⟨_, rfl⟩
      rw [hw_25] at HO HW ⊢
      clear hw_25
      replace HX0 := hide (HXo.out.below HW.out)
      replace HI9 := hide (HI8.out.below HW.out)
      refine hK.out _ _ ⟨HX0.out.c5.2.2.1, HX0.out.c5.2.2.2.2.1, by rw [← HFX.out]; exact intsAt_cell HI9.out hlt⟩ (fun hHeld => ?_)
      clear hK K'
      try simp only [Act.put, List.setIfInBounds_toArray, List.set_cons_zero, List.set_cons_succ]
      refine wpAnyH_done (by kernel_rfl) ?_ _
      clear hHeld
      go_wp2_with fail
      go_roundw
      case rel => exact ⟨k + 1, by omega, by omega, by go_num, HE2, HO, HW⟩
      case measure => simp [Go.RowKit.intOf]; omega
end Go.Proofs.Ytcndeegfkgfnkaa
