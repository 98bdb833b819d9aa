/- Lemmas: S57, S62, S61, S63, S64. -/
import Derived.Test.YtonmkmaeohfjpaaBk14
import Derived.Test.YtonmkmaeohfjpaaBk17
import Derived.Test.YtonmkmaeohfjpaaBk18
import Derived.Test.YtonmkmaeohfjpaaBk19
import Derived.Test.YtonmkmaeohfjpaaBk20
import Derived.Test.YtonmkmaeohfjpaaBk21
set_option linter.unusedVariables false
set_option linter.unusedSimpArgs false
/- power of the reference, BitsOf of the base, LevelOf of the reference for any count. -/
namespace Go.Proofs.Ytonmkmaeohfjpaa
open Go Go.RowKit Go.Lib Go.Shelf
set_option maxHeartbeats 4000000 in
set_option maxRecDepth 100000 in
theorem powerR_any (c : Nat) (w : World) (h6 : c ≤ 6) : Calls Try.prog 92 #[.int .i64 (c : Int)] w fun e w' => e = .returned (.int .i64 ((2 ^ c : Nat) : Int)) ∧ w = w' := by
  have HP := hide (fun k (h : k ≤ 6) => (show 2 ^ k ≤ 64 from (Nat.pow_le_pow_right (by decide) h : 2 ^ k ≤ 2 ^ 6)))
  go_enter Try.func92, Try.ntmps92
  go_wp2_with fail
  go_loopw [3, 4] (fun v i wr => ∃ k x : Nat, k ≤ c ∧ Hid (2 ^ k = x) ∧ v = .int .i64 (x : Int) ∧ i = .int .i64 (k : Int) ∧ w = wr) (fun _ i _ => c - (Go.RowKit.intOf i).toNat)
  case atStart => exact ⟨0, 1, Nat.zero_le _, hide rfl, by first | trivial | rfl, by first | trivial | rfl, by first | trivial | rfl⟩
  case round =>
    obtain ⟨k, x, hk, HX, rfl, rfl, hw⟩ := hrel
    subst hw
    have hx6 : x ≤ 64 := by rw [← HX.out]; exact HP.out k (by omega)
    by_cases hlt : k < c
    · have hltz : (k : Int) < (c : Int) := by omega
      have q1 : IntKind.i64.wrap (2 * (x : Int)) = ((2 * x : Nat) : Int) := by rw [IntWalk.i64_in _ (by omega)]; push_cast; rfl
      go_wp2_with fail
      go_roundw
      case rel => exact ⟨k + 1, 2 * x, by omega, hide (by rw [Nat.pow_succ, HX.out]; omega), by first | rfl | (simp; done) | go_num, by go_num, by first | trivial | rfl⟩
      case measure => simp [Go.RowKit.intOf] <;> omega
    · have hkc : k = c := by omega
      subst hkc
      have hltz : ¬ (k : Int) < (k : Int) := by omega
      have e1 : ((x : Nat) : Int) = ((2 ^ k : Nat) : Int) := by rw [HX.out]
      go_wp2_with fail
      go_ret
      exact ⟨by first | rfl | (simp [← e1]; done), rfl⟩
set_option maxHeartbeats 4000000 in
set_option maxRecDepth 100000 in
theorem BitsOfB_any (j c : Nat) (w : World) (hj : j < 64) (h1 : 1 ≤ c) (h6 : c ≤ 6) :
    Calls Try.prog 48 #[.int .i64 (j : Int), .int .i64 (c : Int)] w fun e w' => ∃ g, e = .returned (.slice (some ⟨g, 0, none⟩) c c) ∧ IntsAt w' 0 (some ⟨g, 0, none⟩) c (labF c j) ∧ Below w.heap.size w w' := by
  obtain ⟨i0, hi, hz0, hz1, hz2⟩ := info_parts intInfo
  have hmk := fun W => run_make_row (P := Try.prog) 22 3 i0 (.int .i64 0) Try.underlying22 hi hz0 hz1 rfl .i64 .i64 c (by rw [hz2]; omega) (by omega) W
  clear hi hz0 hz1 hz2
  have HL0 := hide (fun k p y => (show p = c - 1 - k → j / 2 ^ k = y → k < c → ((y % 2 : Nat) : Int) = labF c j p from fun e h hk => by
    unfold labF
    rw [show c - 1 - p = k by omega, h]))
  have HLS := hide (fun k p => (show p = c - 1 - k → k < c → setF (fun q => if c - k ≤ q then labF c j q else 0) p (labF c j p) = fun q => if c - (k + 1) ≤ q then labF c j q else 0 from fun e hk => by
    funext q
    show (if q = p then labF c j p else if c - k ≤ q then labF c j q else 0) = if c - (k + 1) ≤ q then labF c j q else 0
    by_cases h : q = p
    · subst h; rw [if_pos rfl, if_pos (by omega)]
    · rw [if_neg h]
      by_cases h2 : c - k ≤ q
      · rw [if_pos h2, if_pos (by omega)]
      · rw [if_neg h2, if_neg (by omega)]))
  obtain ⟨F, hF⟩ : ∃ z, labF c j = z := ⟨_, rfl⟩
  simp only [hF] at HL0 HLS ⊢
  clear hF
  go_enter Try.func48, Try.ntmps48
  go_upto_region 2 with fail
  obtain ⟨gL, hgL⟩ : ∃ z, w.heap.size = z := ⟨_, rfl⟩
  obtain ⟨w3, hw3⟩ : ∃ q' : World, q' = w.alloc (.cells (madeCells #[.int .i64 0] c) 3) := ⟨_, rfl⟩
  try rw [← hw3]
  have HL := hide (show OwnInts w3 gL (.slice (some ⟨gL, 0, none⟩) c c) c (fun p => if c - 0 ≤ p then F p else 0) by rw [hw3]; exact (ownS_zeros w gL gL c (by omega) hgL.symm (by unfold maxLen; omega)).congr fun p hp => (if_neg (by omega)).symm)
  have HB := hide (show Below gL w w3 by rw [hw3, ← hgL]; (repeat (first | (with_reducible exact Below.refl _ _) | (with_reducible refine Go.below_drewN ?_ _) | (with_reducible refine Below.drew ?_) | (with_reducible refine Below.alloc ?_ (by first | exact Nat.le_refl _ | (simp; done) | (simp; omega) | omega) _) | (with_reducible refine Below.setCell ?_ (by first | exact Nat.le_refl _ | (simp; done) | (simp; omega) | omega) _))))
  clear hw3
  try simp only [hgL]
  go_wp2_with fail
  go_loopw [0, 6] (fun n i wr => ∃ (k y : Nat) (z : Int), k ≤ c ∧ Hid (j / 2 ^ k = y) ∧ y < 64 ∧ Hid (z = (c : Int) - 1 - (k : Int)) ∧ n = .int .i64 (y : Int) ∧ i = .int .i64 z ∧ Hid (OwnInts wr gL (.slice (some ⟨gL, 0, none⟩) c c) c (fun q => if c - k ≤ q then F q else 0)) ∧ Hid (Below gL w wr)) (fun _ i _ => (Go.RowKit.intOf i + 1).toNat)
  case atStart => exact ⟨0, j, _, Nat.zero_le _, hide (by simp), hj, hide (by omega), rfl, rfl, HL, HB⟩
  case round =>
    clear HL HB
    obtain ⟨k, y, z, hk, HY, hy, HZ, rfl, rfl, HL, HB⟩ := hrel
    obtain ⟨wB, rfl⟩ : ∃ x : World, x = wr := ⟨_, rfl⟩
    by_cases hlt : k < c
    · obtain ⟨p, rfl⟩ : ∃ p : Nat, z = (p : Int) := ⟨z.toNat, by have := HZ.out; omega⟩
      have hpk : p = c - 1 - k := by have := HZ.out; omega
      have hpc : p < c := by omega
      have hpz : (p : Int) < (c : Int) := by omega
      obtain ⟨v, hv⟩ : ∃ z, F p = z := ⟨_, rfl⟩
      have q0 : ((y % 2 : Nat) : Int) = v := (HL0.out k p y hpk HY.out hlt).trans hv
      have q1 : Int.tmod (y : Int) 2 = v := by rw [Int.tmod_eq_emod_of_nonneg (by omega)]; omega
      have q2 : (y : Int) % 2 = v := by omega
      have q3 : Int.tdiv (y : Int) 2 = ((y / 2 : Nat) : Int) := by rw [Int.tdiv_eq_ediv_of_nonneg (by omega)]; omega
      have q4 : (y : Int) / 2 = ((y / 2 : Nat) : Int) := by omega
      obtain ⟨y2, hy2⟩ : ∃ z, y / 2 = z := ⟨_, rfl⟩
      rw [hy2] at q3 q4
      have HY2 := hide (show j / 2 ^ (k + 1) = y2 by rw [Nat.pow_succ, ← Nat.div_div_eq_div_mul, HY.out, hy2])
      have hy64 : y2 < 64 := by omega
      have c0 := HL.out.cellAt hpc
      have k0 := HL.out.frozen p
      have HL5 := hide (HL.out.set_ p v)
      rw [← hv, HLS.out k p hpk hlt, hv] at HL5
      have HB5 := hide (HB.out.setCell (p := ⟨gL, p, none⟩) (Nat.le_refl _) (.int .i64 v))
      clear hv HL HB q0 hy2 hpk
      go_wp2_with fail
      go_roundw
      case rel => exact ⟨k + 1, y2, (p : Int) - 1, by omega, HY2, hy64, hide (by have := HZ.out; omega), by first | rfl | (simp; done) | go_num, by go_num, HL5, HB5⟩
      case measure => simp [Go.RowKit.intOf] <;> omega
    · have hkc : k = c := by omega
      have hz0 : ¬ (0 : Int) ≤ z := by have := HZ.out; omega
      have hI := HL.out.atG (lo := 0) (Nat.zero_le _)
      have HI := hide (show IntsAt wB 0 (some ⟨gL, 0, none⟩) c F from hI.congr fun q _ => if_pos (by omega))
      clear hI HL HL0 HLS HY HZ hkc hlt
      go_wp2_with fail
      go_ret
      exact ⟨gL, rfl, HI.out, hgL ▸ HB.out⟩
theorem LevelOfR_any (b o c h : Nat) (F : Nat → Int) (w : World) (h1 : 1 ≤ h) (h3 : h ≤ 3) (hc : h ≤ c) (hc9 : c ≤ 9223372036854775807) (hF : ∀ j, j < h → IsBit (F j)) (hI : IntsAt w 0 (some ⟨b, o, none⟩) h F) :
    Calls Try.prog 40 #[.slice (some ⟨b, o, none⟩) h c] w fun e w' => e = .returned (.int .i64 (lvl h F)) ∧ w = w' := by
  obtain rfl | rfl | rfl : h = 1 ∨ h = 2 ∨ h = 3 := by omega
  · exact LevelOfR1_any b o c F w hc hc9 hF hI
  · exact LevelOfR2_any b o c F w hc hc9 hF hI
  · exact LevelOfR3_any b o c F w hc hc9 hF hI
end Go.Proofs.Ytonmkmaeohfjpaa
/- Points of the code. -/
namespace Go.Proofs.Ytonmkmaeohfjpaa
open Go Go.RowKit Go.Lib Go.Shelf
attribute [local go_sem] Oper.semAt_some
structure PInv (w0 W : World) (B b5 k : Nat) (P : Nat → Gau) (v : Value) : Prop where
  box : Box W b5 58 #[v]
  own : OwnGaus W B v k P
  below : Below w0.heap.size w0 W
  size : B ≤ W.heap.size
theorem PInv.roundly {w0 W Y : World} {B b5 k : Nat} {P : Nat → Gau} {v : Value} {row : Option Nat} (hi : PInv w0 W B b5 k P v) (hg : W.grownBy Y row) (hB : w0.heap.size ≤ B) (hr : ∀ r, row = some r → B ≤ r ∧ ∃ o : Obj, W.heap[r]? = some o ∧ o.isCells = false) : PInv w0 Y B b5 k P v :=
  ⟨hi.box.roundly hg fun r e => (hr r e).2, hi.own.roundly hg fun r e => (hr r e).2, hi.below.grown hg hi.below.size fun r e => by have := (hr r e).1; omega, Nat.le_trans hi.size hg.size⟩
set_option maxHeartbeats 4000000 in
set_option maxRecDepth 100000 in
theorem Points_wrong (k : Int) (w : World) (hE : ordE k ≠ 0) :
    Calls Try.prog 41 #[.int .i64 k] w fun e w' => e = .returned (.tuple #[.slice none 0 0, .int .i64 (ordE k)]) ∧ w = w' := by
  have HOE := hide (fun W => orderError_any k W)
  obtain ⟨r, hr⟩ : ∃ z, ordE k = z := ⟨_, rfl⟩
  simp only [hr] at HOE hE ⊢
  have t2 : (r != 0) = true := by simpa using hE
  clear hr
  go_enter Try.func41, Try.ntmps41
  go_wp2_with (go_at_call 93; refine (HOE.out _).mono ?_; rintro e_ v_ ⟨rfl, rfl⟩)
  go_ret2
  exact ⟨rfl, rfl⟩
set_option maxHeartbeats 16000000 in
set_option maxRecDepth 100000 in
theorem Points_right (h : Nat) (w : World) (h1 : 1 ≤ h) (h3 : h ≤ 3) :
    Calls Try.prog 41 #[.int .i64 (2 * (h : Int))] w fun e w' => ∃ v, e = .returned (.tuple #[v, .int .i64 0]) ∧ OwnGaus w' w.heap.size v (2 ^ (2 * h)) (fun j => pntF h (labF (2 * h) j) 0) ∧ Below w.heap.size w w' := by
  obtain ⟨m, hm⟩ : ∃ m, m = 2 * h := ⟨_, rfl⟩
  have hmz : 2 * (h : Int) = (m : Int) := by omega
  have ho : ordE (2 * (h : Int)) = 0 := by unfold ordE; rw [if_pos (by omega)]
  have HOE := hide (fun W => orderError_any (2 * (h : Int)) W)
  rw [ho] at HOE
  rw [hmz] at HOE
  rw [hmz, ← hm]
  have hm1 : 1 ≤ m := by omega
  have hm6 : m ≤ 6 := by omega
  have HPO := hide (fun j b W hI => pointOf_any b 0 m h m (labF m j) W (by omega) (by omega) h1 h3 (fun p _ => labF_bit m j p) hI)
  obtain ⟨P, hP⟩ : ∃ P : Nat → Gau, (fun j => pntF h (labF m j) 0) = P := ⟨_, rfl⟩
  have HP := hide (fun j => (show (P j).re = (lvl h fun q => labF m j (2 * q)) ∧ (P j).im = (lvl h fun q => labF m j (2 * q + 1)) by rw [← hP]; simp [pntF]))
  rw [hP]
  have HN64 := hide ((Nat.pow_le_pow_right (by decide) hm6 : 2 ^ m ≤ 2 ^ 6))
  clear hP hmz ho hm
  refine (callsIn_wide (n := 9)).1 ?_
  refine callsIn_of_wp_marks Try.func41 rfl trivial ?_ rfl
  refine wpIn_wide.2 ?_
  simp only [Try.ntmps41, List.size_toArray, List.length_cons, List.length_nil, Nat.reduceAdd, Nat.reduceSub, Array.replicate_succ, Array.replicate_zero, List.push_toArray, List.append_toArray, List.nil_append, List.cons_append]
  go_upto_region 1 with fail
  go_wp2_with fail
  refine (HOE.out _).mono ?_
  rintro e_ v_ ⟨rfl, rfl⟩
  have t0 : ((0 : Int) != 0) = false := by decide
  go_upto_region 5 with fail
  obtain ⟨b5, hb5⟩ : ∃ z, w.heap.size = z := ⟨_, rfl⟩
  obtain ⟨w5, hw5⟩ : ∃ z : World, z = w.alloc (.cells #[.slice none 0 0] 58) := ⟨_, rfl⟩
  try rw [← hw5]
  have HX := hide (show Box w5 b5 58 #[.slice none 0 0] by rw [hw5]; exact Box.made hb5.symm)
  have HB := hide (show Below w.heap.size w w5 by rw [hw5]; (repeat (first | (with_reducible exact Below.refl _ _) | (with_reducible refine Go.below_drewN ?_ _) | (with_reducible refine Below.drew ?_) | (with_reducible refine Below.alloc ?_ (by first | exact Nat.le_refl _ | (simp; done) | (simp; omega) | omega) _) | (with_reducible refine Below.setCell ?_ (by first | exact Nat.le_refl _ | (simp; done) | (simp; omega) | omega) _))))
  have hw7 : w.heap.size ≤ b5 := by omega
  try simp only [hb5]
  clear hw5
  go_wp2_with fail
  refine (labelsOf_any _ _).mono ?_
  rintro e w6 ⟨rfl, hw6⟩
  obtain ⟨b6, hb6⟩ : ∃ z, w5.heap.size = z := ⟨_, rfl⟩
  have bn : Box w6 b6 3 #[.int .i64 (m : Int)] := by rw [← hw6]; exact Box.made hb6.symm
  have hc6 : Below w5.heap.size w5 w6 := by rw [← hw6]; (repeat (first | (with_reducible exact Below.refl _ _) | (with_reducible refine Go.below_drewN ?_ _) | (with_reducible refine Below.drew ?_) | (with_reducible refine Below.alloc ?_ (by first | exact Nat.le_refl _ | (simp; done) | (simp; omega) | omega) _) | (with_reducible refine Below.setCell ?_ (by first | exact Nat.le_refl _ | (simp; done) | (simp; omega) | omega) _)))
  have h56 : b5 < b6 := by rw [← hb6]; exact HX.out.lt
  replace HX := hide (HX.out.below hc6)
  replace HB := hide (HB.out.trans (hc6.mono HB.out.size))
  simp only [hb6]
  clear hw6 hc6 hb6
  have h6s := bn.lt
  go_wp2_with fail
  refine (wpIn_wide (n := 9)).1 ?_
  apply wpIn_rangeFunc_told (n := 9) (encs := encL m) rfl (by decide) rfl trivial (enters_of Try.func122 (by kernel_rfl) rfl) (labels_told 8 b6 m w6 bn hm1 hm6) bn.lt (Below.refl _ _) (fun _ => rfl)
    (fun xs W => ∃ v, PInv w W w6.heap.size b5 xs.length P v) (fun _ _ => False)
  case hI => exact fun xs X Y row ⟨v, hs⟩ hg hr => ⟨v, hs.roundly hg HB.out.size hr⟩
  case hIr => exact fun xs X Y row h _ _ => h
  case hT => exact fun xs x => told_own _ _ _ xs x
  case h0 => exact ⟨_, HX.out, OwnGaus.nil_ _ _ _, HB.out, Nat.le_refl _⟩
  case hassign =>
    intro l x W K hK
    unfold encL
    gi_wp2
    exact hK
  case hbody =>
    clear HX HB
    rintro l xs x W hsz ⟨v, hM⟩ HT hlen
    obtain ⟨k, hk⟩ : ∃ k, xs.length = k := ⟨_, rfl⟩
    have HLEN := hide (show (xs ++ [x]).length = k + 1 by rw [List.length_append, hk]; rfl)
    rw [hk] at hM hlen
    obtain ⟨hlo, hIx⟩ := HT
    rw [hk] at hIx
    have hk64 : k ≤ 64 := by have := HN64.out; omega
    have HX := hide hM.box
    have HO := hide hM.own
    have HBW := hide hM.below
    have hs6 := hM.size
    have HIK := hide (hIx.weak (Nat.zero_le _))
    clear hM hIx hlo hk hlen
    obtain ⟨A7, c7, rfl, hc7, -⟩ := ownGaus_form HO.out
    have HPK := hide (fun W hI => HPO.out k x W hI)
    have HPV := hide (HP.out k)
    obtain ⟨y, hy⟩ : ∃ z, P k = z := ⟨_, rfl⟩
    rw [hy] at HPV
    simp only [← HPV.out.1, ← HPV.out.2] at HPK
    obtain ⟨xv, hxv⟩ : ∃ z, y.re = z := ⟨_, rfl⟩
    obtain ⟨xw, hxw⟩ : ∃ z, y.im = z := ⟨_, rfl⟩
    simp only [hxv, hxw] at HPK
    have HXV := hide hxv
    have HXW := hide hxw
    have HY := hide hy
    clear hxv hxw hy HPV
    have HKF := hide (KeepsFrom.refl w6.heap.size W)
    obtain ⟨o6, ho6⟩ : ∃ z, W.heap[b6]? = z := ⟨_, rfl⟩
    have HW6 := hide ho6
    have HO6 := hide ho6
    clear ho6
    have hwB : w.heap.size ≤ w6.heap.size := by omega
    gi_wp2_with fail
    refine wpIn_region_held_drew (S := fun w' => b6 < w'.heap.size) (by kernel_rfl) (by kernel_rfl) (fun ⟨_, _, h⟩ => h) (Nat.lt_of_lt_of_le h6s hs6) (fun hHeld => ?_)
    obtain ⟨w_1, hw_1⟩ : ∃ q : World, q = W.drew := ⟨_, rfl⟩
    rw [← hw_1] at hHeld ⊢
    have hc_1 : Below W.heap.size W w_1 := by rw [hw_1]; exact (Below.refl _ _).drew
    clear hw_1
    replace HX := hide (HX.out.below hc_1)
    replace HO := hide (HO.out.below hc_1)
    replace HIK := hide (HIK.out.below hc_1)
    replace HKF := hide (keepsUnder HKF.out hc_1)
    replace HW6 := hide ((hc_1.block b6 (by omega)).trans HW6.out)
    replace HBW := hide (HBW.out.trans (hc_1.mono HBW.out.size))
    replace hs6 := Nat.le_trans hs6 hc_1.size
    clear hc_1
    refine wpAnyH_take (i := 1) (oi := ⟨some 16, _, _, _, _, _⟩) (v := ?_) rfl (by kernel_rfl) (by kernel_rfl) (by kernel_rfl) (fun _ _ _ h => h) (Or.inl ⟨by rfl, ?_⟩) (by assumption) ?_
    rotate_left
    · (intro w' hSw; (try dsimp only at hSw); go_simp <;> (with_reducible rfl))
    try simp only [Act.put, List.setIfInBounds_toArray, List.set_cons_zero, List.set_cons_succ]
    refine wpAnyH_ready (rs := [0, 2]) (by kernel_rfl) (by simp) ?_
    refine AllReadyH.cons (o := ⟨some 15, _, _, _, _, _⟩) rfl (fun K' hK => ?_) (AllReadyH.cons (o := ⟨some 17, _, _, _, _, _⟩) rfl (fun K' hK => ?_) AllReadyH.nil)
    · skip
      obtain ⟨y0, f0, hly⟩ := HX.out.oneS
      go_simp
      clear y0 f0 hly
      refine hK.out _ _ (Nat.lt_of_lt_of_le h6s hs6) (fun hHeld => ?_)
      clear hK K'
      try simp only [Act.put, List.setIfInBounds_toArray, List.set_cons_zero, List.set_cons_succ]
      refine wpAnyH_ready (rs := [2]) (by kernel_rfl) (by simp) ?_
      refine AllReadyH.cons (o := ⟨some 17, _, _, _, _, _⟩) rfl (fun K' hK => ?_) AllReadyH.nil
      go_simp
      go_at_call 94
      refine (HPK.out _ HIK.out).mono ?_
      rintro e_ w_2 ⟨rfl, hb_2⟩
      replace HX := hide (HX.out.below hb_2)
      replace HO := hide (HO.out.below hb_2)
      replace HIK := hide (HIK.out.below hb_2)
      replace HKF := hide (keepsUnder HKF.out hb_2)
      replace HW6 := hide ((hb_2.block b6 (by omega)).trans HW6.out)
      replace HBW := hide (HBW.out.trans (hb_2.mono HBW.out.size))
      replace hs6 := Nat.le_trans hs6 hb_2.size
      clear hb_2
      go_wp2_with fail
      refine hK.out _ _ (Nat.lt_of_lt_of_le h6s hs6) (fun hHeld => ?_)
      clear hK K'
      try simp only [Act.put, List.setIfInBounds_toArray, List.set_cons_zero, List.set_cons_succ]
      refine wpAnyH_ready (rs := [3]) (by kernel_rfl) (by simp) ?_
      refine AllReadyH.cons (o := ⟨some 18, _, _, _, _, _⟩) rfl (fun K' hK => ?_) AllReadyH.nil
      go_simp
      obtain ⟨g9, hg9⟩ : ∃ z, w_2.heap.size = z := ⟨_, rfl⟩
      obtain ⟨w_3, hw_3⟩ : ∃ z : World, z = w_2.alloc (.cells #[.int .i64 xv, .int .i64 xw] 68) := ⟨_, rfl⟩
      try rw [← hw_3]
      have HP9 := hide (show Box w_3 g9 68 #[.int .i64 y.re, .int .i64 y.im] by rw [HXV.out, HXW.out, hw_3]; exact Box.made hg9.symm)
      have hc_3 : Below w_2.heap.size w_2 w_3 := by rw [hw_3]; exact (Below.refl _ _).alloc (Nat.le_refl _) _
      clear hw_3
      replace HX := hide (HX.out.below hc_3)
      replace HO := hide (HO.out.below hc_3)
      replace HIK := hide (HIK.out.below hc_3)
      replace HKF := hide (keepsUnder HKF.out hc_3)
      replace HW6 := hide ((hc_3.block b6 (by omega)).trans HW6.out)
      replace HBW := hide (HBW.out.trans (hc_3.mono HBW.out.size))
      replace hs6 := Nat.le_trans hs6 hc_3.size
      clear hc_3
      try simp only [hg9]
      clear hg9
      refine hK.out _ _ (Nat.lt_of_lt_of_le h6s hs6) (fun hHeld => ?_)
      clear hK K'
      try simp only [Act.put, List.setIfInBounds_toArray, List.set_cons_zero, List.set_cons_succ]
      refine wpAnyH_ready (rs := [4]) (by kernel_rfl) (by simp) ?_
      refine AllReadyH.cons (o := ⟨some 19, _, _, _, _, _⟩) rfl (fun K' hK => ?_) AllReadyH.nil
      refine step_append_oneG _ rfl (.tmp 15) (.tmp 18) rfl w6.heap.size (.slice A7 k c7) k _ rfl HO.out g9 1 y rfl HP9.out (by omega) hs6 ?_
      intro v9 w_4 ho9 hb9 hgr9
      obtain ⟨A9, c9, rfl, hcv9, -⟩ := ownGaus_form ho9
      replace HX := hide (HX.out.kept hb9 (by omega))
      replace HKF := hide (keepsAppended HKF.out HO.out hgr9)
      replace HW6 := hide ((hb9.block b6 h6s).trans HW6.out)
      replace HBW := hide (HBW.out.trans (hb9.mono hwB))
      have HO2 := hide ho9
      replace hs6 := Nat.le_trans hs6 hgr9.size
      clear ho9 hb9 hgr9 HO HP9 HIK
      refine hK.out _ _ (Nat.lt_of_lt_of_le h6s hs6) (fun hHeld => ?_)
      clear hK K'
      try simp only [Act.put, List.setIfInBounds_toArray, List.set_cons_zero, List.set_cons_succ]
      refine wpAnyH_ready (rs := [5]) (by kernel_rfl) (by simp) ?_
      refine AllReadyH.cons (o := ⟨none, _, _, _, _, _⟩) rfl (fun K' hK => ?_) AllReadyH.nil
      obtain ⟨y0, f0, hly⟩ := HX.out.oneS
      go_simp
      clear y0 f0 hly
      replace HX := hide (HX.out.oneSput (.slice A9 (k + 1) c9))
      have HO := hide (HO2.out.other (k := b5) 0 (.slice A9 (k + 1) c9) (fun e => by have := (World.ownsRow.lt HO2.out b5 e).1; omega))
      replace HKF := hide (keepsStored HKF.out (b := b5) (o := 0) (u := .slice A9 (k + 1) c9) (by omega))
      replace HW6 := hide ((Below.heap_setCell _ ⟨b5, 0, none⟩ (.slice A9 (k + 1) c9) b6 (by show b6 ≠ b5; omega)).trans HW6.out)
      replace HBW := hide (HBW.out.setCell (p := ⟨b5, 0, none⟩) hw7 (.slice A9 (k + 1) c9))
      replace hs6 : w6.heap.size ≤ (w_4.setCell ⟨b5, 0, none⟩ (.slice A9 (k + 1) c9)).heap.size := by simpa [World.setCell] using hs6
      obtain ⟨w_5, hw_5⟩ : ∃ z : World, w_4.setCell ⟨b5, 0, none⟩ (.slice A9 (k + 1) c9) = z := ⟨_, rfl⟩
      rw [hw_5] at HX HO HKF HW6 HBW hs6 ⊢
      clear hw_5 HO2
      refine hK.out _ _ (Nat.lt_of_lt_of_le h6s hs6) (fun hHeld => ?_)
      clear hK K'
      try simp only [Act.put, List.setIfInBounds_toArray, List.set_cons_zero, List.set_cons_succ]
      refine wpAnyH_done (by kernel_rfl) ?_ _
      clear hHeld
      try simp only [Exit.inBlock]
      refine ⟨HKF.out, HW6.out.trans HO6.out.symm, .slice A9 (k + 1) c9, HX.out, ?_, HBW.out, hs6⟩
      rw [HLEN.out]
      refine HO.out.congr fun j hj => ?_
      by_cases e : j < k
      · rw [if_pos e]
      · rw [if_neg e, show j = k by omega]
        exact HY.out.symm
    · skip
      go_simp
      go_at_call 94
      refine (HPK.out _ HIK.out).mono ?_
      rintro e_ w_6 ⟨rfl, hb_6⟩
      replace HX := hide (HX.out.below hb_6)
      replace HO := hide (HO.out.below hb_6)
      replace HIK := hide (HIK.out.below hb_6)
      replace HKF := hide (keepsUnder HKF.out hb_6)
      replace HW6 := hide ((hb_6.block b6 (by omega)).trans HW6.out)
      replace HBW := hide (HBW.out.trans (hb_6.mono HBW.out.size))
      replace hs6 := Nat.le_trans hs6 hb_6.size
      clear hb_6
      go_wp2_with fail
      refine hK.out _ _ (Nat.lt_of_lt_of_le h6s hs6) (fun hHeld => ?_)
      clear hK K'
      try simp only [Act.put, List.setIfInBounds_toArray, List.set_cons_zero, List.set_cons_succ]
      refine wpAnyH_ready (rs := [0, 3]) (by kernel_rfl) (by simp) ?_
      refine AllReadyH.cons (o := ⟨some 15, _, _, _, _, _⟩) rfl (fun K' hK => ?_) (AllReadyH.cons (o := ⟨some 18, _, _, _, _, _⟩) rfl (fun K' hK => ?_) AllReadyH.nil)
      · skip
        obtain ⟨y0, f0, hly⟩ := HX.out.oneS
        go_simp
        clear y0 f0 hly
        refine hK.out _ _ (Nat.lt_of_lt_of_le h6s hs6) (fun hHeld => ?_)
        clear hK K'
        try simp only [Act.put, List.setIfInBounds_toArray, List.set_cons_zero, List.set_cons_succ]
        refine wpAnyH_ready (rs := [3]) (by kernel_rfl) (by simp) ?_
        refine AllReadyH.cons (o := ⟨some 18, _, _, _, _, _⟩) rfl (fun K' hK => ?_) AllReadyH.nil
        go_simp
        obtain ⟨g9, hg9⟩ : ∃ z, w_6.heap.size = z := ⟨_, rfl⟩
        obtain ⟨w_7, hw_7⟩ : ∃ z : World, z = w_6.alloc (.cells #[.int .i64 xv, .int .i64 xw] 68) := ⟨_, rfl⟩
        try rw [← hw_7]
        have HP9 := hide (show Box w_7 g9 68 #[.int .i64 y.re, .int .i64 y.im] by rw [HXV.out, HXW.out, hw_7]; exact Box.made hg9.symm)
        have hc_7 : Below w_6.heap.size w_6 w_7 := by rw [hw_7]; exact (Below.refl _ _).alloc (Nat.le_refl _) _
        clear hw_7
        replace HX := hide (HX.out.below hc_7)
        replace HO := hide (HO.out.below hc_7)
        replace HIK := hide (HIK.out.below hc_7)
        replace HKF := hide (keepsUnder HKF.out hc_7)
        replace HW6 := hide ((hc_7.block b6 (by omega)).trans HW6.out)
        replace HBW := hide (HBW.out.trans (hc_7.mono HBW.out.size))
        replace hs6 := Nat.le_trans hs6 hc_7.size
        clear hc_7
        try simp only [hg9]
        clear hg9
        refine hK.out _ _ (Nat.lt_of_lt_of_le h6s hs6) (fun hHeld => ?_)
        clear hK K'
        try simp only [Act.put, List.setIfInBounds_toArray, List.set_cons_zero, List.set_cons_succ]
        refine wpAnyH_ready (rs := [4]) (by kernel_rfl) (by simp) ?_
        refine AllReadyH.cons (o := ⟨some 19, _, _, _, _, _⟩) rfl (fun K' hK => ?_) AllReadyH.nil
        refine step_append_oneG _ rfl (.tmp 15) (.tmp 18) rfl w6.heap.size (.slice A7 k c7) k _ rfl HO.out g9 1 y rfl HP9.out (by omega) hs6 ?_
        intro v9 w_8 ho9 hb9 hgr9
        obtain ⟨A9, c9, rfl, hcv9, -⟩ := ownGaus_form ho9
        replace HX := hide (HX.out.kept hb9 (by omega))
        replace HKF := hide (keepsAppended HKF.out HO.out hgr9)
        replace HW6 := hide ((hb9.block b6 h6s).trans HW6.out)
        replace HBW := hide (HBW.out.trans (hb9.mono hwB))
        have HO2 := hide ho9
        replace hs6 := Nat.le_trans hs6 hgr9.size
        clear ho9 hb9 hgr9 HO HP9 HIK
        refine hK.out _ _ (Nat.lt_of_lt_of_le h6s hs6) (fun hHeld => ?_)
        clear hK K'
        try simp only [Act.put, List.setIfInBounds_toArray, List.set_cons_zero, List.set_cons_succ]
        refine wpAnyH_ready (rs := [5]) (by kernel_rfl) (by simp) ?_
        refine AllReadyH.cons (o := ⟨none, _, _, _, _, _⟩) rfl (fun K' hK => ?_) AllReadyH.nil
        obtain ⟨y0, f0, hly⟩ := HX.out.oneS
        go_simp
        clear y0 f0 hly
        replace HX := hide (HX.out.oneSput (.slice A9 (k + 1) c9))
        have HO := hide (HO2.out.other (k := b5) 0 (.slice A9 (k + 1) c9) (fun e => by have := (World.ownsRow.lt HO2.out b5 e).1; omega))
        replace HKF := hide (keepsStored HKF.out (b := b5) (o := 0) (u := .slice A9 (k + 1) c9) (by omega))
        replace HW6 := hide ((Below.heap_setCell _ ⟨b5, 0, none⟩ (.slice A9 (k + 1) c9) b6 (by show b6 ≠ b5; omega)).trans HW6.out)
        replace HBW := hide (HBW.out.setCell (p := ⟨b5, 0, none⟩) hw7 (.slice A9 (k + 1) c9))
        replace hs6 : w6.heap.size ≤ (w_8.setCell ⟨b5, 0, none⟩ (.slice A9 (k + 1) c9)).heap.size := by simpa [World.setCell] using hs6
        obtain ⟨w_9, hw_9⟩ : ∃ z : World, w_8.setCell ⟨b5, 0, none⟩ (.slice A9 (k + 1) c9) = z := ⟨_, rfl⟩
        rw [hw_9] at HX HO HKF HW6 HBW hs6 ⊢
        clear hw_9 HO2
        refine hK.out _ _ (Nat.lt_of_lt_of_le h6s hs6) (fun hHeld => ?_)
        clear hK K'
        try simp only [Act.put, List.setIfInBounds_toArray, List.set_cons_zero, List.set_cons_succ]
        refine wpAnyH_done (by kernel_rfl) ?_ _
        clear hHeld
        try simp only [Exit.inBlock]
        refine ⟨HKF.out, HW6.out.trans HO6.out.symm, .slice A9 (k + 1) c9, HX.out, ?_, HBW.out, hs6⟩
        rw [HLEN.out]
        refine HO.out.congr fun j hj => ?_
        by_cases e : j < k
        · rw [if_pos e]
        · rw [if_neg e, show j = k by omega]
          exact HY.out.symm
      · skip
        go_simp
        obtain ⟨g9, hg9⟩ : ∃ z, w_6.heap.size = z := ⟨_, rfl⟩
        obtain ⟨w_10, hw_10⟩ : ∃ z : World, z = w_6.alloc (.cells #[.int .i64 xv, .int .i64 xw] 68) := ⟨_, rfl⟩
        try rw [← hw_10]
        have HP9 := hide (show Box w_10 g9 68 #[.int .i64 y.re, .int .i64 y.im] by rw [HXV.out, HXW.out, hw_10]; exact Box.made hg9.symm)
        have hc_10 : Below w_6.heap.size w_6 w_10 := by rw [hw_10]; exact (Below.refl _ _).alloc (Nat.le_refl _) _
        clear hw_10
        replace HX := hide (HX.out.below hc_10)
        replace HO := hide (HO.out.below hc_10)
        replace HIK := hide (HIK.out.below hc_10)
        replace HKF := hide (keepsUnder HKF.out hc_10)
        replace HW6 := hide ((hc_10.block b6 (by omega)).trans HW6.out)
        replace HBW := hide (HBW.out.trans (hc_10.mono HBW.out.size))
        replace hs6 := Nat.le_trans hs6 hc_10.size
        clear hc_10
        try simp only [hg9]
        clear hg9
        refine hK.out _ _ (Nat.lt_of_lt_of_le h6s hs6) (fun hHeld => ?_)
        clear hK K'
        try simp only [Act.put, List.setIfInBounds_toArray, List.set_cons_zero, List.set_cons_succ]
        refine wpAnyH_ready (rs := [0]) (by kernel_rfl) (by simp) ?_
        refine AllReadyH.cons (o := ⟨some 15, _, _, _, _, _⟩) rfl (fun K' hK => ?_) AllReadyH.nil
        obtain ⟨y0, f0, hly⟩ := HX.out.oneS
        go_simp
        clear y0 f0 hly
        refine hK.out _ _ (Nat.lt_of_lt_of_le h6s hs6) (fun hHeld => ?_)
        clear hK K'
        try simp only [Act.put, List.setIfInBounds_toArray, List.set_cons_zero, List.set_cons_succ]
        refine wpAnyH_ready (rs := [4]) (by kernel_rfl) (by simp) ?_
        refine AllReadyH.cons (o := ⟨some 19, _, _, _, _, _⟩) rfl (fun K' hK => ?_) AllReadyH.nil
        refine step_append_oneG _ rfl (.tmp 15) (.tmp 18) rfl w6.heap.size (.slice A7 k c7) k _ rfl HO.out g9 1 y rfl HP9.out (by omega) hs6 ?_
        intro v9 w_11 ho9 hb9 hgr9
        obtain ⟨A9, c9, rfl, hcv9, -⟩ := ownGaus_form ho9
        replace HX := hide (HX.out.kept hb9 (by omega))
        replace HKF := hide (keepsAppended HKF.out HO.out hgr9)
        replace HW6 := hide ((hb9.block b6 h6s).trans HW6.out)
        replace HBW := hide (HBW.out.trans (hb9.mono hwB))
        have HO2 := hide ho9
        replace hs6 := Nat.le_trans hs6 hgr9.size
        clear ho9 hb9 hgr9 HO HP9 HIK
        refine hK.out _ _ (Nat.lt_of_lt_of_le h6s hs6) (fun hHeld => ?_)
        clear hK K'
        try simp only [Act.put, List.setIfInBounds_toArray, List.set_cons_zero, List.set_cons_succ]
        refine wpAnyH_ready (rs := [5]) (by kernel_rfl) (by simp) ?_
        refine AllReadyH.cons (o := ⟨none, _, _, _, _, _⟩) rfl (fun K' hK => ?_) AllReadyH.nil
        obtain ⟨y0, f0, hly⟩ := HX.out.oneS
        go_simp
        clear y0 f0 hly
        replace HX := hide (HX.out.oneSput (.slice A9 (k + 1) c9))
        have HO := hide (HO2.out.other (k := b5) 0 (.slice A9 (k + 1) c9) (fun e => by have := (World.ownsRow.lt HO2.out b5 e).1; omega))
        replace HKF := hide (keepsStored HKF.out (b := b5) (o := 0) (u := .slice A9 (k + 1) c9) (by omega))
        replace HW6 := hide ((Below.heap_setCell _ ⟨b5, 0, none⟩ (.slice A9 (k + 1) c9) b6 (by show b6 ≠ b5; omega)).trans HW6.out)
        replace HBW := hide (HBW.out.setCell (p := ⟨b5, 0, none⟩) hw7 (.slice A9 (k + 1) c9))
        replace hs6 : w6.heap.size ≤ (w_11.setCell ⟨b5, 0, none⟩ (.slice A9 (k + 1) c9)).heap.size := by simpa [World.setCell] using hs6
        obtain ⟨w_12, hw_12⟩ : ∃ z : World, w_11.setCell ⟨b5, 0, none⟩ (.slice A9 (k + 1) c9) = z := ⟨_, rfl⟩
        rw [hw_12] at HX HO HKF HW6 HBW hs6 ⊢
        clear hw_12 HO2
        refine hK.out _ _ (Nat.lt_of_lt_of_le h6s hs6) (fun hHeld => ?_)
        clear hK K'
        try simp only [Act.put, List.setIfInBounds_toArray, List.set_cons_zero, List.set_cons_succ]
        refine wpAnyH_done (by kernel_rfl) ?_ _
        clear hHeld
        try simp only [Exit.inBlock]
        refine ⟨HKF.out, HW6.out.trans HO6.out.symm, .slice A9 (k + 1) c9, HX.out, ?_, HBW.out, hs6⟩
        rw [HLEN.out]
        refine HO.out.congr fun j hj => ?_
        by_cases e : j < k
        · rw [if_pos e]
        · rw [if_neg e, show j = k by omega]
          exact HY.out.symm
  case hdone =>
    clear HX
    rintro D0 xs W hD hxs ⟨v, hM⟩ hK
    have hK' := hide hK
    have HXS := hide hxs
    have HM := hide hM
    obtain ⟨y0, f0, hly⟩ := hM.box.oneS
    obtain ⟨A7, c7, rfl, hc7, -⟩ := ownGaus_form hM.own
    clear hxs hK hM
    go_wp2_with fail
    refine ⟨by simp, .inl ⟨_, _, rfl, run_takeDeferred hK'.out, ?_⟩⟩
    refine ⟨_, results_tmp2 rfl _ _ _, _, rfl, ?_⟩
    have hM3 := HM.out.roundly (grownBy_putObj' W D0 (.deferred none)) HB.out.size (fun r e => by cases e; exact ⟨hD, _, hK'.out, rfl⟩)
    have ho3 := hM3.own
    rw [HXS.out] at ho3
    have ho4 := ho3.weak (base' := w.heap.size) HB.out.size
    rw [HXS.out]
    first | exact ⟨_, rfl, ho4, hM3.below⟩ | exact ⟨ho4, hM3.below⟩
  case hstop => exact fun D xs W _ _ h _ => h.elim
end Go.Proofs.Ytonmkmaeohfjpaa
/- half, Point, Points, Modulated of the reference. -/
namespace Go.Proofs.Ytonmkmaeohfjpaa
open Go Go.RowKit Go.Lib Go.Shelf
set_option maxHeartbeats 8000000 in
set_option maxRecDepth 100000 in
theorem half_any (b o m h c p : Nat) (F : Nat → Int) (w : World) (hm : m = 2 * h) (hh : h ≤ 3) (hp : p < 2) (hI : IntsAt w 0 (some ⟨b, o, none⟩) m F) :
    Calls Try.prog 124 #[.slice (some ⟨b, o, none⟩) m c, .int .i64 (p : Int)] w fun e w' => ∃ v, e = .returned v ∧ OwnInts w' w.heap.size v h (fun j => F (2 * j + p)) ∧ Below w.heap.size w w' := by
  have HII := hide hI
  obtain ⟨G, hG⟩ : ∃ G : Nat → Int, (fun j => F (2 * j + p)) = G := ⟨_, rfl⟩
  have HG := hide (show ∀ j, G j = F (2 * j + p) from fun j => by rw [← hG])
  rw [hG]
  clear hG hI
  have HB := hide (Below.refl w.heap.size w)
  have hm6 : m ≤ 6 := by omega
  have HM := hide hm
  clear hm
  go_enter Try.func124, Try.ntmps124
  go_wp2_with fail
  go_loopw [5, 6] (fun v i wr => ∃ k q : Nat, k ≤ h ∧ Hid (q = 2 * k + p) ∧ i = .int .i64 (q : Int) ∧ Hid (OwnInts wr w.heap.size v k G) ∧ Hid (Below w.heap.size w wr)) (fun _ i _ => 10 - (Go.RowKit.intOf i).toNat)
  case atStart => exact ⟨0, p, Nat.zero_le _, hide (by omega), rfl, hide (OwnInts.nil_ _ _ _), HB⟩
  case round =>
    clear HB
    obtain ⟨k, q, hk, HQ, rfl, HO, HB⟩ := hrel
    obtain ⟨wA, rfl⟩ : ∃ x : World, x = wr := ⟨_, rfl⟩
    obtain ⟨As, cs, rfl, -, -⟩ := HO.out.form
    by_cases hlt : k < h
    · have hqm : q < m := by have := HQ.out; have := HM.out; omega
      have hqz : (q : Int) < (m : Int) := by omega
      have c0 := intsAt_cellK (HII.out.below HB.out) hqm
      have hy : F q = G k := by rw [HG.out, HQ.out]
      rw [hy] at c0
      obtain ⟨y, hy2⟩ : ∃ z, G k = z := ⟨_, rfl⟩
      rw [hy2] at c0
      have HY := hide hy2
      clear hy hy2
      go_wp2_with (at_builtin; refine wpList_append_ints _ rfl (.tmp 14) (.tmp 19) rfl w.heap.size 0 (.slice As k cs) k G rfl (HO.out.alloc _) (some ⟨wA.heap.size, 0, none⟩) 1 1 (fun _ => y) rfl (IntsAt.one wA 0 y 3 (Nat.zero_le _)) (by omega) (by have := HB.out.size; simp; omega) ?_; intro v' w' g1 g2; obtain ⟨D, d, rfl, -, -⟩ := g1.form)
      have HO2 := hide (g1.congr (G := G) (fun i hi => by
        unfold catF
        by_cases e : i < k
        · rw [if_pos e]
        · rw [if_neg e, show i = k by omega]; exact HY.out.symm))
      have HB2 := hide ((HB.out.alloc HB.out.size (.cells #[.int .i64 y] 3)).trans g2)
      clear g1 g2 HO HB
      go_roundw
      case rel => exact ⟨k + 1, q + 2, by omega, hide (by have := HQ.out; omega), by go_num, HO2, HB2⟩
      case measure => simp [Go.RowKit.intOf] <;> omega
    · have hkh : k = h := by omega
      subst hkh
      have hqz : ¬ (q : Int) < (m : Int) := by have := HQ.out; have := HM.out; omega
      clear HG HII
      go_wp2_with fail
      go_ret
      first | exact ⟨_, rfl, HO.out, HB.out⟩ | exact ⟨HO.out, HB.out⟩
set_option maxHeartbeats 8000000 in
set_option maxRecDepth 100000 in
theorem PointR_any (b o m h c : Nat) (F : Nat → Int) (w : World) (hm : m = 2 * h) (h1 : 1 ≤ h) (h3 : h ≤ 3) (hF : ∀ j, j < m → IsBit (F j)) (hI : IntsAt w 0 (some ⟨b, o, none⟩) m F) :
    Calls Try.prog 96 #[.slice (some ⟨b, o, none⟩) m c] w fun e w' => e = .returned (.agg #[.int .i64 (lvl h fun q => F (2 * q)), .int .i64 (lvl h fun q => F (2 * q + 1))]) ∧ Below w.heap.size w w' := by
  have HI := hide hI
  have HH := hide (fun p W (hp : p < 2) hz => half_any b o m h c p F W hm h3 hp hz)
  have HA := hide (fun b o c W hc hc9 (hz : IntsAt W 0 (some ⟨b, o, none⟩) h fun j => F (2 * j + 0)) => LevelOfR_any b o c h (fun j => F (2 * j + 0)) W h1 h3 hc hc9 (fun j hj => hF (2 * j + 0) (by omega)) hz)
  have HE := hide (fun b o c W hc hc9 (hz : IntsAt W 0 (some ⟨b, o, none⟩) h fun j => F (2 * j + 1)) => LevelOfR_any b o c h (fun j => F (2 * j + 1)) W h1 h3 hc hc9 (fun j hj => hF (2 * j + 1) (by omega)) hz)
  have HH0 := hide (fun W hz => HH.out 0 W (by decide) hz)
  have HH1 := hide (fun W hz => HH.out 1 W (by decide) hz)
  rw [show ((0 : Nat) : Int) = 0 from rfl] at HH0
  rw [show ((1 : Nat) : Int) = 1 from rfl] at HH1
  obtain ⟨X, hX⟩ : ∃ X : Nat → Int, (fun j => F (2 * j + 0)) = X := ⟨_, rfl⟩
  obtain ⟨Y, hY⟩ : ∃ X : Nat → Int, (fun j => F (2 * j + 1)) = X := ⟨_, rfl⟩
  rw [show (fun q => F (2 * q)) = X from hX, hY]
  simp only [hX] at HA HH0
  simp only [hY] at HE HH1
  obtain ⟨x, hx⟩ : ∃ z, lvl h X = z := ⟨_, rfl⟩
  obtain ⟨y, hy⟩ : ∃ z, lvl h Y = z := ⟨_, rfl⟩
  rw [hx, hy]
  simp only [hx] at HA
  simp only [hy] at HE
  clear hI hX hY hx hy HH hF hm
  go_enter Try.func96, Try.ntmps96
  go_upto_region 1 with fail
  obtain ⟨b2, hb2⟩ : ∃ z, w.heap.size = z := ⟨_, rfl⟩
  obtain ⟨w1, hw1⟩ : ∃ z : World, z = w.alloc (.cells #[.int .i64 0, .int .i64 0] 68) := ⟨_, rfl⟩
  try rw [← hw1]
  have HX := hide (show Box w1 b2 68 #[.int .i64 0, .int .i64 0] by rw [hw1]; exact Box.made hb2.symm)
  have HB := hide (show Below w.heap.size w w1 by rw [hw1]; (repeat (first | (with_reducible exact Below.refl _ _) | (with_reducible refine Go.below_drewN ?_ _) | (with_reducible refine Below.drew ?_) | (with_reducible refine Below.alloc ?_ (by first | exact Nat.le_refl _ | (simp; done) | (simp; omega) | omega) _) | (with_reducible refine Below.setCell ?_ (by first | exact Nat.le_refl _ | (simp; done) | (simp; omega) | omega) _))))
  try simp only [hb2]
  clear hw1
  go_wp2_with fail
  refine (HH0.out _ (HI.out.below HB.out)).mono ?_
  rintro e_ w2 ⟨v2, rfl, ho2, hb⟩
  skip
  obtain ⟨A2, c2, rfl, -, hi2⟩ := ho2.form
  obtain ⟨g2, f2, rfl⟩ := intsAt_some hi2 h1
  have hcm2 := ho2.cap_any
  have HJ := hide (hi2.weak (Nat.zero_le _))
  replace HX := hide (HX.out.below hb)
  replace HB := hide (HB.out.trans (hb.mono HB.out.size))
  clear ho2 hi2 hb
  go_wp2_with fail
  refine (HA.out g2 f2 c2 _ hcm2.1 hcm2.2 HJ.out).mono ?_
  rintro e_ v_ ⟨rfl, rfl⟩
  clear HJ
  go_wp2_with fail
  refine (HH1.out _ (HI.out.below HB.out)).mono ?_
  rintro e_ w3 ⟨v3, rfl, ho3, hb⟩
  skip
  obtain ⟨A3, c3, rfl, -, hi3⟩ := ho3.form
  obtain ⟨g3, f3, rfl⟩ := intsAt_some hi3 h1
  have hcm3 := ho3.cap_any
  have HJ := hide (hi3.weak (Nat.zero_le _))
  replace HX := hide (HX.out.below hb)
  replace HB := hide (HB.out.trans (hb.mono HB.out.size))
  clear ho3 hi3 hb
  go_wp2_with fail
  refine (HE.out g3 f3 c3 _ hcm3.1 hcm3.2 HJ.out).mono ?_
  rintro e_ v_ ⟨rfl, rfl⟩
  clear HJ
  obtain ⟨k0, k1, f0, f1, hlz⟩ := HX.out.t2
  go_wp2_with fail
  clear k0 k1 f0 f1 hlz
  have HY := hide (HX.out.t2put (.int .i64 x) (.int .i64 y))
  obtain ⟨z0, z1, -, -, -⟩ := HY.out.t2
  refine bodyPost_ret (v := .agg #[.int .i64 x, .int .i64 y]) ?_ rfl ⟨rfl, (HB.out.setCell (p := ⟨b2, 0, none⟩) (by show w.heap.size ≤ b2; omega) _).setCell (p := ⟨b2, 1, none⟩) (by show w.heap.size ≤ b2; omega) _⟩
  simp [results, Try.results96, go_sem, z0, z1]
set_option maxHeartbeats 8000000 in
set_option maxRecDepth 100000 in
theorem PointsR_any (h : Nat) (w : World) (h1 : 1 ≤ h) (h3 : h ≤ 3) :
    Calls Try.prog 45 #[.int .i64 (2 * (h : Int))] w fun e w' => ∃ v, e = .returned v ∧ OwnGaus w' w.heap.size v (2 ^ (2 * h)) (fun j => pntF h (labF (2 * h) j) 0) ∧ Below w.heap.size w w' := by
  obtain ⟨m, hm⟩ : ∃ m, m = 2 * h := ⟨_, rfl⟩
  have hmz : 2 * (h : Int) = (m : Int) := by omega
  rw [hmz, ← hm]
  have hN64 : 2 ^ m ≤ 64 := (Nat.pow_le_pow_right (by decide) (by omega) : 2 ^ m ≤ 2 ^ 6)
  have HPW := hide (fun W => powerR_any m W (by omega))
  obtain ⟨N, hN⟩ : ∃ N, 2 ^ m = N := ⟨_, rfl⟩
  rw [hN] at HPW hN64 ⊢
  have HBO := hide (fun j W (hj : j < 64) => BitsOfB_any j m W hj (by omega) (by omega))
  have HPT := hide (fun j b W hI => PointR_any b 0 m h m (labF m j) W hm h1 h3 (fun p _ => labF_bit m j p) hI)
  obtain ⟨P, hP⟩ : ∃ P : Nat → Gau, (fun j => pntF h (labF m j) 0) = P := ⟨_, rfl⟩
  have HP := hide (fun j => (show (P j).re = (lvl h fun q => labF m j (2 * q)) ∧ (P j).im = (lvl h fun q => labF m j (2 * q + 1)) by rw [← hP]; simp [pntF]))
  rw [hP]
  clear hN hP hmz hm
  have HB := hide (Below.refl w.heap.size w)
  go_enter Try.func45, Try.ntmps45
  go_wp2_with fail
  go_loopw [3, 4] (fun v i wr => ∃ k : Nat, k ≤ N ∧ i = .int .i64 (k : Int) ∧ Hid (OwnGaus wr w.heap.size v k P) ∧ Hid (Below w.heap.size w wr)) (fun _ i _ => N - (Go.RowKit.intOf i).toNat)
  case atStart => exact ⟨0, Nat.zero_le _, rfl, hide (OwnGaus.nil_ _ _ _), HB⟩
  case round =>
    clear HB
    obtain ⟨k, hk, rfl, HO, HB⟩ := hrel
    obtain ⟨wA, rfl⟩ : ∃ x : World, x = wr := ⟨_, rfl⟩
    obtain ⟨As, cs, rfl, -, -⟩ := ownGaus_form HO.out
    by_cases hlt : k < N
    · have hkz : (k : Int) < (N : Int) := by omega
      go_wp2_with fail
      refine (HPW.out _).mono ?_
      rintro e_ v_ ⟨rfl, rfl⟩
      go_wp2_with fail
      refine (HBO.out k _ (by omega)).mono ?_
      rintro e_ w2 ⟨g, rfl, hI, hb⟩
      have HI := hide hI
      replace HO := hide (HO.out.below hb)
      replace HB := hide (HB.out.trans (hb.mono HB.out.size))
      clear hI hb
      go_wp2_with fail
      have HPK := hide (HPT.out k g _ HI.out)
      have HPV := hide (HP.out k)
      obtain ⟨y, hy⟩ : ∃ z, P k = z := ⟨_, rfl⟩
      rw [hy] at HPV
      rw [← HPV.out.1, ← HPV.out.2] at HPK
      obtain ⟨yr, hyr⟩ : ∃ z, y.re = z := ⟨_, rfl⟩
      obtain ⟨yi, hyi⟩ : ∃ z, y.im = z := ⟨_, rfl⟩
      have HYY := hide (show y = ⟨yr, yi⟩ by rw [← hyr, ← hyi])
      rw [hyr, hyi] at HPK
      have HY := hide hy
      clear hy hyr hyi HPV
      refine HPK.out.mono ?_
      rintro e_ w3 ⟨rfl, hb⟩
      replace HO := hide (HO.out.below hb)
      replace HB := hide (HB.out.trans (hb.mono HB.out.size))
      clear hb HPK HI
      go_wp2_with (at_builtin; refine wpList_append_gaus _ rfl (.tmp 11) (.tmp 16) rfl w.heap.size 0 (.slice As k cs) k P rfl (HO.out.alloc _) (some ⟨w3.heap.size, 0, none⟩) 1 1 (fun _ => y) rfl (GausAt.one (by rw [HYY.out]; exact Box.made rfl)) (by omega) (by have := HB.out.size; simp; omega) ?_; intro v' w' g1 g2; obtain ⟨D, d, rfl, -, -⟩ := ownGaus_form g1)
      have HO2 := hide (g1.congr (G := P) (fun i hi => by
        unfold catG
        by_cases e : i < k
        · rw [if_pos e]
        · rw [if_neg e, show i = k by omega]; exact HY.out.symm))
      have HB2 := hide ((HB.out.alloc HB.out.size (.cells #[.int .i64 yr, .int .i64 yi] 68)).trans g2)
      clear g1 g2 HO HB
      go_roundw
      case rel => exact ⟨k + 1, by omega, by go_num, HO2, HB2⟩
      case measure => simp [Go.RowKit.intOf] <;> omega
    · have hkN : k = N := by omega
      subst hkN
      have hkz : ¬ (k : Int) < (k : Int) := by omega
      go_wp2_with fail
      refine (HPW.out _).mono ?_
      rintro e_ v_ ⟨rfl, rfl⟩
      go_wp2_with fail
      go_ret
      first | exact ⟨_, rfl, HO.out, HB.out⟩ | exact ⟨HO.out, HB.out⟩
end Go.Proofs.Ytonmkmaeohfjpaa
/- Modulated of the reference. -/
namespace Go.Proofs.Ytonmkmaeohfjpaa
open Go Go.RowKit Go.Lib Go.Shelf
set_option maxHeartbeats 8000000 in
set_option maxRecDepth 100000 in
theorem ModulatedR_any (b o m h C n c : Nat) (F : Nat → Int) (w : World) (hm : m = 2 * h) (h1 : 1 ≤ h) (h3 : h ≤ 3) (hn : n = C * m) (hn9 : n ≤ 400) (hc : n ≤ c) (hc9 : c ≤ 9223372036854775807) (hF : ∀ j, j < n → IsBit (F j)) (hI : IntsAt w 0 (some ⟨b, o, none⟩) n F) :
    Calls Try.prog 46 #[.int .i64 (m : Int), .slice (some ⟨b, o, none⟩) n c] w fun e w' => ∃ v, e = .returned v ∧ OwnGaus w' w.heap.size v C (fun j => pntF h F (j * m)) ∧ Below w.heap.size w w' := by
  have HII := hide hI
  have hm1 : 2 ≤ m := by omega
  have hm6 : m ≤ 6 := by omega
  have HPT := hide (fun q W (hq : q + m ≤ n) hI => PointR_any b (o + q) m h (c - q) (fun j => F (q + j)) W hm h1 h3 (fun p hp => hF (q + p) (by omega)) hI)
  have HN := hide hn
  have hC9 : C ≤ 400 := Nat.le_trans (Nat.le_mul_of_pos_right C (show 0 < m by omega)) (by rw [← hn]; exact hn9)
  have HP := hide (fun q => (show (pntF h F q).re = (lvl h fun t => F (q + 2 * t)) ∧ (pntF h F q).im = (lvl h fun t => F (q + (2 * t + 1))) from ⟨rfl, rfl⟩))
  have HB := hide (Below.refl w.heap.size w)
  clear hI hF hm hn
  go_enter Try.func46, Try.ntmps46
  go_wp2_with fail
  go_loopw [5, 6] (fun v i wr => ∃ k q : Nat, k ≤ C ∧ Hid (q = k * m) ∧ q ≤ n ∧ i = .int .i64 (q : Int) ∧ Hid (OwnGaus wr w.heap.size v k (fun j => pntF h F (j * m))) ∧ Hid (Below w.heap.size w wr)) (fun _ i _ => 1000 - (Go.RowKit.intOf i).toNat)
  case atStart => exact ⟨0, 0, Nat.zero_le _, hide (by omega), Nat.zero_le _, rfl, hide (OwnGaus.nil_ _ _ _), HB⟩
  case round =>
    clear HB
    obtain ⟨k, q, hk, HQ, hqn, rfl, HO, HB⟩ := hrel
    obtain ⟨wA, rfl⟩ : ∃ x : World, x = wr := ⟨_, rfl⟩
    obtain ⟨As, cs, rfl, -, -⟩ := ownGaus_form HO.out
    by_cases hlt : k < C
    · have hmul : (k + 1) * m ≤ C * m := Nat.mul_le_mul_right m hlt
      have HQ2 := hide (show q + m = (k + 1) * m by rw [HQ.out, Nat.add_mul, Nat.one_mul])
      rw [← HN.out, ← HQ2.out] at hmul
      have hqz : (q : Int) < (n : Int) := by omega
      have qa : IntKind.i64.wrap ((q : Int) + (m : Int)) = ((q + m : Nat) : Int) := by rw [IntWalk.i64_in _ (by omega)]; push_cast; rfl
      have s1 : (q : Int) ≤ ((q + m : Nat) : Int) := by omega
      have s2 : ((q + m : Nat) : Int) ≤ (c : Int) := by omega
      have s3 : q ≤ q + m := by omega
      have s4 : q + m ≤ c := by omega
      have s5 : (q : Int) + (m : Int) ≤ (c : Int) := by omega
      have s6 : q + m - q = m := by omega
      have hIK : IntsAt wA 0 (some ⟨b, o + q, none⟩) m (fun j => F (q + j)) := IntsAt.cut (j := q) (m := m) (HII.out.below HB.out) (by omega)
      have HIK := hide hIK
      clear hIK
      have HPK := hide (HPT.out q wA hmul HIK.out)
      have HPV := hide (HP.out q)
      obtain ⟨y, hy⟩ : ∃ z, pntF h F q = z := ⟨_, rfl⟩
      rw [hy] at HPV
      have HY := hide (show pntF h F (k * m) = y by rw [← HQ.out]; exact hy)
      obtain ⟨yr, hyr⟩ : ∃ z, y.re = z := ⟨_, rfl⟩
      obtain ⟨yi, hyi⟩ : ∃ z, y.im = z := ⟨_, rfl⟩
      simp only [← HPV.out.1, ← HPV.out.2, hyr, hyi] at HPK
      have HYY := hide (show y = ⟨yr, yi⟩ by rw [← hyr, ← hyi])
      clear hy hyr hyi HPV
      go_wp2_with fail
      refine HPK.out.mono ?_
      rintro e_ w3 ⟨rfl, hb⟩
      replace HO := hide (HO.out.below hb)
      replace HB := hide (HB.out.trans (hb.mono HB.out.size))
      clear hb HPK HIK
      go_wp2_with (at_builtin; refine wpList_append_gaus _ rfl (.tmp 14) (.tmp 22) rfl w.heap.size 0 (.slice As k cs) k _ rfl (HO.out.alloc _) (some ⟨w3.heap.size, 0, none⟩) 1 1 (fun _ => y) rfl (GausAt.one (by rw [HYY.out]; exact Box.made rfl)) (by omega) (by have := HB.out.size; simp; omega) ?_; intro v' w' g1 g2; obtain ⟨D, d, rfl, -, -⟩ := ownGaus_form g1)
      have HO2 := hide (g1.congr (G := fun j => pntF h F (j * m)) (fun i hi => by
        unfold catG
        by_cases e : i < k
        · rw [if_pos e]
        · rw [if_neg e, show i = k by omega]; exact HY.out.symm))
      have HB2 := hide ((HB.out.alloc HB.out.size (.cells #[.int .i64 yr, .int .i64 yi] 68)).trans g2)
      clear g1 g2 HO HB
      go_roundw
      case rel => exact ⟨k + 1, q + m, by omega, HQ2, by omega, by go_num, HO2, HB2⟩
      case measure => simp [Go.RowKit.intOf] <;> omega
    · have hkC : k = C := by omega
      have hqn2 : q = n := by rw [HQ.out, HN.out, hkC]
      have hqz : ¬ (q : Int) < (n : Int) := by omega
      subst hkC
      clear HPT HP HII HQ HN hqn2
      go_wp2_with fail
      go_ret
      first | exact ⟨_, rfl, HO.out, HB.out⟩ | exact ⟨HO.out, HB.out⟩
end Go.Proofs.Ytonmkmaeohfjpaa
/- The walk of SymbolPoints. -/
namespace Go.Proofs.Ytonmkmaeohfjpaa
open Go Go.RowKit Go.Lib Ieee
theorem bitE_parts {n : Nat} {F : Nat → Int} (h : bitE n F 400 = 0) : 0 < n ∧ n ≤ 400 ∧ ∀ j, j < n → IsBit (F j) := by
  unfold bitE at h
  by_cases h0 : n = 0
  · rw [if_pos h0] at h; exact absurd h (by decide)
  rw [if_neg h0] at h
  by_cases h1 : (400 : Int) < (n : Int)
  · rw [if_pos h1] at h; exact absurd h (by decide)
  rw [if_neg h1] at h
  unfold unI at h
  by_cases hb : bitsB n F = true
  · exact ⟨by omega, by omega, bitsB_iff.1 hb⟩
  · rw [if_neg hb] at h; exact absurd h (by decide)
set_option maxHeartbeats 32000000 in
set_option maxRecDepth 100000 in
theorem symbolPoints_walk (k : Int) (A : Option Addr) (n c : Nat) (F : Nat → Int) (w : World) (hn : n ≤ 9223372036854775807) (hnc : n ≤ c) (hc9 : c ≤ 9223372036854775807) (hF : IntsAt w 0 A n F) :
    Calls Try.prog 7 #[.int .i64 k, .slice A n c] w fun e w' => e = .returned (.bool true) ∧ Below w.heap.size w w' := by
  have HB := hide (Below.refl w.heap.size w)
  have HFF := hide hF
  clear hF
  have HFW := hide (fun W => few_any (n : Int) 40 400 W (by decide))
  go_enter Try.func7, Try.ntmps7
  go_wp2_with fail
  refine (awakeS_any _).mono ?_
  rintro e_ v1 ⟨rfl, hb1⟩
  replace HFF := hide (HFF.out.below hb1)
  replace HB := hide (HB.out.trans (hb1.mono HB.out.size))
  clear hb1
  go_wp2_with fail
  by_cases hf : n ≤ 40 ∨ (400 < n ∧ n ≤ 402)
  case neg =>
    have hs : (decide ((n : Int) ≤ 40) || (decide ((n : Int) > 400) && decide ((n : Int) ≤ 400 + 2))) = false := by simp; omega
    rw [hs] at HFW
    clear hs
    refine (HFW.out _).mono ?_
    rintro e_ v_ ⟨rfl, rfl⟩
    go_wp2_with fail
    go_ret
    exact ⟨rfl, HB.out⟩
  have hs : (decide ((n : Int) ≤ 40) || (decide ((n : Int) > 400) && decide ((n : Int) ≤ 400 + 2))) = true := by simp; omega
  rw [hs] at HFW
  clear hs
  refine (HFW.out _).mono ?_
  rintro e_ v_ ⟨rfl, rfl⟩
  go_wp2_with fail
  clear HFW
  have hn402 : n ≤ 402 := by omega
  have HCI := hide (fun W h => copyInts_own A n c F W (by omega) h)
  have HOE := hide (fun W => OrderErr_any k W)
  by_cases hok : ordE k = 0
  case neg =>
    have HPW := hide (fun W => Points_wrong k W hok)
    have hme : modE k n F = ordE k := by unfold modE orS; rw [if_neg hok, if_neg hok]
    have HMW := hide (fun A c W h => Modulated_wrong k A n c F W (by omega) h (by rw [hme]; exact hok))
    simp only [hme] at HMW
    obtain ⟨r, hr⟩ : ∃ z, ordE k = z := ⟨_, rfl⟩
    simp only [hr] at HPW HMW HOE hok
    have t2 : (r != 0) = true := by simpa using hok
    clear hr hme
    refine (HPW.out _).mono ?_
    rintro e_ v_ ⟨rfl, rfl⟩
    go_wp2_with fail
    clear HPW
    refine (HCI.out _ HFF.out).mono ?_
    rintro e_ v2 ⟨vc, rfl, hoc, hb2⟩
    have HOC := hide hoc
    obtain ⟨Ac, cc, rfl, hcc, hic⟩ := hoc.form
    have hcm := hoc.cap_any
    replace HFF := hide (HFF.out.below hb2)
    replace HB := hide (HB.out.trans (hb2.mono HB.out.size))
    clear hb2
    have HIC := hide (hic.weak (Nat.zero_le _))
    clear hoc hic HCI
    go_wp2_with fail
    clear HOC
    refine (HMW.out _ _ _ HIC.out).mono ?_
    rintro e_ v3 ⟨rfl, hb3⟩
    replace HFF := hide (HFF.out.below hb3)
    replace HIC := hide (HIC.out.below hb3)
    replace HB := hide (HB.out.trans (hb3.mono HB.out.size))
    clear hb3
    go_wp2_with fail
    clear HMW
    refine (HOE.out _).mono ?_
    rintro e_ v_ ⟨rfl, rfl⟩
    go_wp2_with fail
    go_ret
    exact ⟨rfl, HB.out⟩
  obtain ⟨h, rfl, h1, h3⟩ : ∃ h : Nat, k = 2 * (h : Int) ∧ 1 ≤ h ∧ h ≤ 3 := by
    unfold ordE at hok
    by_cases h : k = 2 ∨ k = 4 ∨ k = 6
    · rcases h with rfl | rfl | rfl
      · exact ⟨1, rfl, by decide, by decide⟩
      · exact ⟨2, rfl, by decide, by decide⟩
      · exact ⟨3, rfl, by decide, by decide⟩
    · rw [if_neg h] at hok; exact absurd hok (by decide)
  rw [hok] at HOE
  have HPC := hide (fun W => Points_right h W h1 h3)
  have HPR := hide (fun W => PointsR_any h W h1 h3)
  have HMW := hide (fun A c W hz hE => Modulated_wrong (2 * (h : Int)) A n c F W (by omega) hz hE)
  have HMR := hide (fun g C c W h0 h4 h5 h6 h7 h8 => Modulated_right h g C n c F W h1 h3 h0 h4 h5 h6 h7 h8)
  have HBE := hide (fun W (hz : IntsAt W 0 A n F) => BitsErr_any A n c F W (by omega) hz)
  have HME := hide (show modE (2 * (h : Int)) n F = if bitE n F 400 = 0 then if (n : Int) % (2 * (h : Int)) = 0 then 0 else 10 else bitE n F 400 by
    unfold modE orS
    rw [hok, if_pos rfl])
  have HTN := hide (Nat.pow_le_pow_right (by decide) (show 2 * h ≤ 6 by omega) : 2 ^ (2 * h) ≤ 2 ^ 6)
  have HMD := hide (fun b o C W h0 h4 h7 h8 => ModulatedR_any b o (2 * h) h C n c F W rfl h1 h3 h0 h4 hnc hc9 h7 h8)
  obtain ⟨m, hm⟩ : ∃ m : Nat, 2 * h = m := ⟨_, rfl⟩
  have hmz : 2 * (h : Int) = (m : Int) := by omega
  have hm2 : 2 ≤ m := by omega
  have hm6 : m ≤ 6 := by omega
  simp only [hm] at HPC HPR HMR HTN HMD
  simp only [hmz] at HPC HPR HMW HMR HOE HME ⊢
  obtain ⟨N, hN⟩ : ∃ N : Nat, 2 ^ m = N := ⟨_, rfl⟩
  obtain ⟨P, hP⟩ : ∃ P : Nat → Gau, (fun j => pntF h (labF m j) 0) = P := ⟨_, rfl⟩
  simp only [hN] at HPC HPR HTN
  simp only [hP] at HPC HPR
  have hN64 : N ≤ 64 := HTN.out
  clear hm hmz hok hN hP HTN
  refine (HPC.out _).mono ?_
  rintro e_ v4 ⟨vp, rfl, hog, hb4⟩
  obtain ⟨Ap, cp, rfl, -, hgp⟩ := ownGaus_form hog
  replace HFF := hide (HFF.out.below hb4)
  replace HB := hide (HB.out.trans (hb4.mono HB.out.size))
  clear hb4
  have HGP := hide (hgp.weak (Nat.zero_le _))
  clear hgp hog HPC
  go_wp2_with fail
  refine (HCI.out _ HFF.out).mono ?_
  rintro e_ v5 ⟨vc, rfl, hoc, hb5⟩
  have HOC := hide hoc
  obtain ⟨Ac, cc, rfl, hcc, hic⟩ := hoc.form
  have hcm := hoc.cap_any
  replace HFF := hide (HFF.out.below hb5)
  replace HGP := hide (HGP.out.below hb5)
  replace HB := hide (HB.out.trans (hb5.mono HB.out.size))
  clear hb5
  have HIC := hide (hic.weak (Nat.zero_le _))
  clear hoc hic HCI
  go_wp2_with fail
  by_cases hE : modE (m : Int) n F = 0
  case neg =>
    have HMQ := hide (HMW.out Ac cc _ HIC.out hE)
    clear HMW HMR HMD HOC
    by_cases he : bitE n F 400 = 0
    case neg =>
      have hv := HME.out.trans (if_neg he)
      rw [hv] at HMQ
      obtain ⟨r, hr⟩ : ∃ z, bitE n F 400 = z := ⟨_, rfl⟩
      simp only [hr] at HMQ HBE he
      have t2 : (r != 0) = true := by simpa using he
      have t1 : (r == 0) = false := by simpa using he
      clear hr hv hE HME
      refine (HMQ.out).mono ?_
      rintro e_ v6 ⟨rfl, hb6⟩
      replace HFF := hide (HFF.out.below hb6)
      replace HGP := hide (HGP.out.below hb6)
      replace HIC := hide (HIC.out.below hb6)
      replace HB := hide (HB.out.trans (hb6.mono HB.out.size))
      clear hb6
      go_wp2_with fail
      clear HMQ
      clear HIC
      refine (HOE.out _).mono ?_
      rintro e_ v_ ⟨rfl, rfl⟩
      go_wp2_with fail
      refine (HPR.out _).mono ?_
      rintro e_ v7 ⟨vr, rfl, hor, hb7⟩
      obtain ⟨Ar, cr, rfl, -, hgr⟩ := ownGaus_form hor
      replace HFF := hide (HFF.out.below hb7)
      replace HGP := hide (HGP.out.below hb7)
      replace HB := hide (HB.out.trans (hb7.mono HB.out.size))
      clear hb7
      have HGR := hide (hgr.weak (Nat.zero_le _))
      clear hgr hor HPR
      go_wp2_with fail
      have HGG := hide (gausses_any Ap Ar N N cp cr P P _ (by omega) (by omega) HGP.out HGR.out)
      rw [show gausB N P N P = true from gausB_iff.2 ⟨rfl, fun _ _ => rfl⟩] at HGG
      refine HGG.out.mono ?_
      rintro e_ v8 ⟨rfl, q8, hq8⟩
      have hb8 : Below v7.heap.size v7 v8 := by rw [hq8]; exact Go.below_drewN (Below.refl _ _) _
      clear hq8 HGG
      replace HFF := hide (HFF.out.below hb8)
      replace HGP := hide (HGP.out.below hb8)
      replace HGR := hide (HGR.out.below hb8)
      replace HB := hide (HB.out.trans (hb8.mono HB.out.size))
      clear hb8
      clear HGP HGR
      go_wp2_with fail
      refine (HBE.out _ HFF.out).mono ?_
      rintro e_ v9 ⟨rfl, q9, hq9⟩
      have hb9 : Below v8.heap.size v8 v9 := by rw [hq9]; exact Go.below_drewN (Below.refl _ _) _
      clear hq9 HBE
      replace HFF := hide (HFF.out.below hb9)
      replace HB := hide (HB.out.trans (hb9.mono HB.out.size))
      clear hb9
      go_wp2_with fail
      go_ret
      exact ⟨rfl, HB.out⟩
    have hnm : ¬ (n : Int) % (m : Int) = 0 := fun hz => hE (by rw [HME.out, if_pos he, if_pos hz])
    have hv : modE (m : Int) n F = 10 := by rw [HME.out, if_pos he, if_neg hnm]
    rw [hv] at HMQ
    have HNM := hide hnm
    have HE := hide he
    rw [he] at HBE
    clear hv hE HME he hnm
    have tm : ((n : Int) % (m : Int) != 0) = true := by simpa using HNM.out
    have tm2 : ((n : Int).tmod (m : Int) != 0) = true := by rw [Int.tmod_eq_emod_of_nonneg (by omega)]; exact tm
    have tm3 : ¬ n % m = 0 := fun e => HNM.out (by omega)
    have hm0 : ¬ (m : Int) = 0 := by omega
    refine (HMQ.out).mono ?_
    rintro e_ v10 ⟨rfl, hb10⟩
    replace HFF := hide (HFF.out.below hb10)
    replace HGP := hide (HGP.out.below hb10)
    replace HIC := hide (HIC.out.below hb10)
    replace HB := hide (HB.out.trans (hb10.mono HB.out.size))
    clear hb10
    go_wp2_with fail
    clear HMQ
    clear HIC
    refine (HOE.out _).mono ?_
    rintro e_ v_ ⟨rfl, rfl⟩
    go_wp2_with fail
    refine (HPR.out _).mono ?_
    rintro e_ v11 ⟨vr, rfl, hor, hb11⟩
    obtain ⟨Ar, cr, rfl, -, hgr⟩ := ownGaus_form hor
    replace HFF := hide (HFF.out.below hb11)
    replace HGP := hide (HGP.out.below hb11)
    replace HB := hide (HB.out.trans (hb11.mono HB.out.size))
    clear hb11
    have HGR := hide (hgr.weak (Nat.zero_le _))
    clear hgr hor HPR
    go_wp2_with fail
    have HGG := hide (gausses_any Ap Ar N N cp cr P P _ (by omega) (by omega) HGP.out HGR.out)
    rw [show gausB N P N P = true from gausB_iff.2 ⟨rfl, fun _ _ => rfl⟩] at HGG
    refine HGG.out.mono ?_
    rintro e_ v12 ⟨rfl, q12, hq12⟩
    have hb12 : Below v11.heap.size v11 v12 := by rw [hq12]; exact Go.below_drewN (Below.refl _ _) _
    clear hq12 HGG
    replace HFF := hide (HFF.out.below hb12)
    replace HGP := hide (HGP.out.below hb12)
    replace HGR := hide (HGR.out.below hb12)
    replace HB := hide (HB.out.trans (hb12.mono HB.out.size))
    clear hb12
    clear HGP HGR
    go_wp2_with fail
    refine (HBE.out _ HFF.out).mono ?_
    rintro e_ v13 ⟨rfl, q13, hq13⟩
    have hb13 : Below v12.heap.size v12 v13 := by rw [hq13]; exact Go.below_drewN (Below.refl _ _) _
    clear hq13 HBE
    replace HFF := hide (HFF.out.below hb13)
    replace HB := hide (HB.out.trans (hb13.mono HB.out.size))
    clear hb13
    go_wp2_with fail
    go_ret
    exact ⟨rfl, HB.out⟩
  have he : bitE n F 400 = 0 := by
    have := HME.out
    rw [hE] at this
    by_cases hz : bitE n F 400 = 0
    · exact hz
    · rw [if_neg hz] at this; exact this.symm
  have hnm : (n : Int) % (m : Int) = 0 := by
    have := HME.out
    rw [hE, if_pos he] at this
    by_cases hz : (n : Int) % (m : Int) = 0
    · exact hz
    · rw [if_neg hz] at this; exact absurd this (by decide)
  obtain ⟨hn0, hn4, hbt⟩ := bitE_parts he
  rw [he] at HBE
  obtain ⟨C, hC⟩ : ∃ C : Nat, n = C * m := by
    obtain ⟨C, hC⟩ := Nat.dvd_of_mod_eq_zero (show n % m = 0 by omega)
    exact ⟨C, by rw [hC, Nat.mul_comm]⟩
  have hC9 : C ≤ 400 := Nat.le_trans (Nat.le_mul_of_pos_right C (show 0 < m by omega)) (by rw [← hC]; exact hn4)
  obtain ⟨gc, fc, e5, -, -⟩ := own_form HOC.out hn0
  injection e5 with e5 _ _
  subst e5
  have HMQ := hide (HMR.out gc C cc _ hC hn4 hcm.1 hcm.2 HIC.out hE)
  obtain ⟨b1, o1, rfl⟩ := intsAt_some HFF.out hn0
  have HMX := hide (fun W hz => HMD.out b1 o1 C W hC hn4 hbt hz)
  obtain ⟨D, hD⟩ : ∃ D : Nat → Gau, (fun j => pntF h F (j * m)) = D := ⟨_, rfl⟩
  rw [hD] at HMQ
  simp only [hD] at HMX
  have HNM := hide hnm
  clear HMW HMR HMD HOC HME hE he hbt hD hC hnm
  have tm : ((n : Int) % (m : Int) != 0) = false := by simpa using HNM.out
  have tm2 : ((n : Int).tmod (m : Int) != 0) = false := by rw [Int.tmod_eq_emod_of_nonneg (by omega)]; exact tm
  have tm3 : n % m = 0 := by have := HNM.out; omega
  have hm0 : ¬ (m : Int) = 0 := by omega
  refine HMQ.out.mono ?_
  rintro e_ v14 ⟨vm, rfl, hom, hb14⟩
  obtain ⟨Am, cm, rfl, -, hgm⟩ := ownGaus_form hom
  replace HFF := hide (HFF.out.below hb14)
  replace HGP := hide (HGP.out.below hb14)
  replace HIC := hide (HIC.out.below hb14)
  replace HB := hide (HB.out.trans (hb14.mono HB.out.size))
  clear hb14
  have HGM := hide (hgm.weak (Nat.zero_le _))
  clear hgm hom HMQ
  clear HIC
  go_wp2_with fail
  refine (HOE.out _).mono ?_
  rintro e_ v_ ⟨rfl, rfl⟩
  go_wp2_with fail
  refine (HPR.out _).mono ?_
  rintro e_ v15 ⟨vr, rfl, hor, hb15⟩
  obtain ⟨Ar, cr, rfl, -, hgr⟩ := ownGaus_form hor
  replace HFF := hide (HFF.out.below hb15)
  replace HGP := hide (HGP.out.below hb15)
  replace HGM := hide (HGM.out.below hb15)
  replace HB := hide (HB.out.trans (hb15.mono HB.out.size))
  clear hb15
  have HGR := hide (hgr.weak (Nat.zero_le _))
  clear hgr hor HPR
  go_wp2_with fail
  have HGG := hide (gausses_any Ap Ar N N cp cr P P _ (by omega) (by omega) HGP.out HGR.out)
  rw [show gausB N P N P = true from gausB_iff.2 ⟨rfl, fun _ _ => rfl⟩] at HGG
  refine HGG.out.mono ?_
  rintro e_ v16 ⟨rfl, q16, hq16⟩
  have hb16 : Below v15.heap.size v15 v16 := by rw [hq16]; exact Go.below_drewN (Below.refl _ _) _
  clear hq16 HGG
  replace HFF := hide (HFF.out.below hb16)
  replace HGP := hide (HGP.out.below hb16)
  replace HGM := hide (HGM.out.below hb16)
  replace HGR := hide (HGR.out.below hb16)
  replace HB := hide (HB.out.trans (hb16.mono HB.out.size))
  clear hb16
  clear HGP HGR
  go_wp2_with fail
  refine (HBE.out _ HFF.out).mono ?_
  rintro e_ v17 ⟨rfl, q17, hq17⟩
  have hb17 : Below v16.heap.size v16 v17 := by rw [hq17]; exact Go.below_drewN (Below.refl _ _) _
  clear hq17 HBE
  replace HFF := hide (HFF.out.below hb17)
  replace HGM := hide (HGM.out.below hb17)
  replace HB := hide (HB.out.trans (hb17.mono HB.out.size))
  clear hb17
  go_wp2_with fail
  refine (HMX.out _ HFF.out).mono ?_
  rintro e_ v18 ⟨vx, rfl, hox, hb18⟩
  obtain ⟨Ax, cx, rfl, -, hgx⟩ := ownGaus_form hox
  replace HFF := hide (HFF.out.below hb18)
  replace HGM := hide (HGM.out.below hb18)
  replace HB := hide (HB.out.trans (hb18.mono HB.out.size))
  clear hb18
  have HGX := hide (hgx.weak (Nat.zero_le _))
  clear hgx hox HMX
  go_wp2_with fail
  have HGG := hide (gausses_any Am Ax C C cm cx D D _ (by omega) (by omega) HGM.out HGX.out)
  rw [show gausB C D C D = true from gausB_iff.2 ⟨rfl, fun _ _ => rfl⟩] at HGG
  refine HGG.out.mono ?_
  rintro e_ v19 ⟨rfl, q19, hq19⟩
  have hb19 : Below v18.heap.size v18 v19 := by rw [hq19]; exact Go.below_drewN (Below.refl _ _) _
  clear hq19 HGG
  replace HFF := hide (HFF.out.below hb19)
  replace HGM := hide (HGM.out.below hb19)
  replace HGX := hide (HGX.out.below hb19)
  replace HB := hide (HB.out.trans (hb19.mono HB.out.size))
  clear hb19
  go_wp2_with fail
  go_ret
  exact ⟨rfl, HB.out⟩
end Go.Proofs.Ytonmkmaeohfjpaa
