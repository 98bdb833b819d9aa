/- Lemmas: Za, Zb, Zc, Zd, Ze, Zf. -/
import Derived.Deep.DeepCutAuto
import Derived.Test.YtmcgmlhpbpjmgaaBk09
import Derived.Test.YtmcgmlhpbpjmgaaBtW
import Derived.Test.YtmcgmlhpbpjmgaaClW
set_option linter.unusedVariables false
set_option linter.unusedSimpArgs false
/- Gcd, PhasorOf and Phasors of the reference; the last value that is interpolated. -/
namespace Go.Proofs.Ytmcgmlhpbpjmgaa
open Go.RowKit
set_option maxHeartbeats 1000000 in
theorem gcdB_any (a b M : Int) (w : World) (ha : -M ≤ a ∧ a ≤ M) (hb : -M ≤ b ∧ b ≤ M) (hM : M ≤ 9000000000000000000) :
    Calls Try.prog 94 #[.int .i64 a, .int .i64 b] w fun e w' => e = .returned (.int .i64 ((Int.gcd a b : Nat) : Int)) ∧ Below w.heap.size w w' := by
  have HH := hide (show (Int.gcd a b = Int.gcd a b) ∧ (-M ≤ a ∧ a ≤ M) ∧ (-M ≤ b ∧ b ≤ M) from ⟨rfl, ha, hb⟩)
  obtain ⟨g, hg⟩ : ∃ g, g = Int.gcd a b := ⟨_, rfl⟩
  rw [← hg]
  have HG := hide hg
  clear ha hb hg
  go_enter Try.func94, Try.ntmps94
  go_wp2_with fail
  go_loopw [0, 1] (fun x y wr => ∃ p q : Int, x = .int .i64 p ∧ y = .int .i64 q ∧ Hid (Int.gcd p q = g ∧ (-M ≤ p ∧ p ≤ M) ∧ (-M ≤ q ∧ q ≤ M)) ∧ Below w.heap.size w wr) (fun _ y _ => (Go.RowKit.intOf y).natAbs)
  case atStart => exact ⟨a, b, rfl, rfl, hide ⟨HG.out.symm, HH.out.2⟩, Below.refl _ _⟩
  case round =>
    clear HH HG
    obtain ⟨p, q, rfl, rfl, HP, hB⟩ := hrel
    obtain ⟨wA, rfl⟩ : ∃ x : World, x = wr := ⟨_, rfl⟩
    have HB := hide hB
    clear hB
    by_cases hq : q = 0
    · subst hq
      have HE := hide (show max p (-p) = ((g : Nat) : Int) by rw [gcd_size, HP.out.1])
      have HSZ := hide (fun W => size_any p W (by have := HP.out.2.1; omega))
      clear HP
      go_wp2_with (go_at_call 35; refine (HSZ.out _).mono ?_; rintro e w' ⟨rfl, rfl⟩)
      go_ret
      exact ⟨by rw [← HE.out]; rfl, HB.out⟩
    · have t0 : (q != 0) = true := by simpa using hq
      obtain ⟨h1, h2⟩ := tmod_size p q hq
      have q1 : IntKind.i64.wrap (p.tmod q) = p.tmod q := IntWalk.i64_in _ (by have := HP.out.2.1; omega)
      have HN := hide (show Int.gcd q (p.tmod q) = g ∧ (-M ≤ q ∧ q ≤ M) ∧ (-M ≤ p.tmod q ∧ p.tmod q ≤ M) from ⟨(gcd_step p q).trans HP.out.1, HP.out.2.2, by have := HP.out.2.1; omega⟩)
      have HL := hide h1
      clear HP h1 h2
      go_wp2_with fail
      go_quiet (fail)
      go_wp2_with fail
      go_roundw
      case rel => exact ⟨q, p.tmod q, rfl, rfl, HN, Go.below_drewN HB.out _⟩
      case measure => simp only [Go.RowKit.intOf]; exact HL.out
/-- In lowest terms. -/
def lowP (R I s : Int) : Pha := ⟨R.tdiv (Int.gcd s ((Int.gcd R I : Nat) : Int) : Nat), I.tdiv (Int.gcd s ((Int.gcd R I : Nat) : Int) : Nat), s.tdiv (Int.gcd s ((Int.gcd R I : Nat) : Int) : Nat)⟩
set_option maxHeartbeats 2000000 in
set_option maxRecDepth 100000 in
theorem phasorOf_any (R I s : Int) (w : World) (hR : -400000 ≤ R ∧ R ≤ 400000) (hI : -400000 ≤ I ∧ I ≤ 400000) (hs : 1 ≤ s ∧ s ≤ 20) :
    Calls Try.prog 71 #[.int .i64 R, .int .i64 I, .int .i64 s] w fun e w' => e = .returned (.agg #[.int .i64 (lowP R I s).re, .int .i64 (lowP R I s).im, .int .i64 (lowP R I s).den]) ∧ Below w.heap.size w w' := by
  have hg := gcd_le hR hI
  obtain ⟨g, hg'⟩ : ∃ g, g = Int.gcd R I := ⟨_, rfl⟩
  obtain ⟨D, hD⟩ : ∃ D, D = Int.gcd s ((g : Nat) : Int) := ⟨_, rfl⟩
  have hDb := gcd_pos (q := ((g : Nat) : Int)) (show 0 < s by omega)
  have HC1 := hide (fun W => gcdB_any R I 400000 W hR hI (by decide))
  rw [← hg'] at HC1 hg
  have HC2 := hide (fun W => gcdB_any ((g : Nat) : Int) s 400000 W (by omega) (by omega) (by decide))
  rw [Int.gcd_comm] at HC2
  rw [← hD] at HC2 hDb
  have HV := hide (show lowP R I s = ⟨R.tdiv D, I.tdiv D, s.tdiv D⟩ by unfold lowP; rw [← hg', ← hD])
  rw [HV.out]
  have HQ := hide (show IntKind.i64.wrap (R.tdiv D) = R.tdiv D ∧ IntKind.i64.wrap (I.tdiv D) = I.tdiv D ∧ IntKind.i64.wrap (s.tdiv D) = s.tdiv D ∧ ¬ ((D : Nat) : Int) = 0 ∧ ¬ D = 0 from
    ⟨IntWalk.i64_in _ (by have := tdiv_size R D; omega), IntWalk.i64_in _ (by have := tdiv_size I D; omega), IntWalk.i64_in _ (by have := tdiv_size s D; omega), by omega, by omega⟩)
  clear hR hI hg hDb HV hs hg' hD
  go_enter Try.func71, Try.ntmps71
  go_upto_region 1 with fail
  obtain ⟨W, hW⟩ : ∃ y : World, y = w.alloc (.cells #[.int .i64 0, .int .i64 0, .int .i64 0] 63) := ⟨_, rfl⟩
  rw [← hW]
  have b8 : Box W w.heap.size 63 #[.int .i64 0, .int .i64 0, .int .i64 0] := by rw [hW]; exact Box.made rfl
  have hB : Below w.heap.size w W := by rw [hW]; (repeat (first | (with_reducible exact Below.refl _ _) | (with_reducible refine Go.below_drewN ?_ _) | (with_reducible refine Below.drew ?_) | (with_reducible refine Below.alloc ?_ (by first | exact Nat.le_refl _ | (simp; done) | (simp; omega) | omega) _) | (with_reducible refine Below.setCell ?_ (by first | exact Nat.le_refl _ | (simp; done) | (simp; omega) | omega) _)))
  clear hW
  go_wp2_with fail
  refine (HC1.out _).mono ?_
  rintro e w1 ⟨rfl, hb1⟩
  have b81 := b8.below hb1
  have hB1 := hB.trans (hb1.mono hB.size)
  clear hb1 b8 hB
  go_wp2_with fail
  refine (HC2.out _).mono ?_
  rintro e w2 ⟨rfl, hb2⟩
  have b82 := b81.below hb2
  have hB2 := hB1.trans (hb2.mono hB1.size)
  clear hb2 b81 hB1
  obtain ⟨q1, q2, q3, qz, qn⟩ := HQ.out
  obtain ⟨z0, z1, z2, f0, f1, f2, hl⟩ := b82.cells3
  go_upto_region 2 with fail
  refine wp_region_held_drew (S := fun _ => True) (by kernel_rfl) trivial (fun hHeld => ?_)
  refine wpAnyH_take (i := 0) (oi := ⟨some 13, _, _, _, _, _⟩) (v := ?_) rfl (by kernel_rfl) (by kernel_rfl) (by kernel_rfl) (fun _ _ _ h => h) (Or.inl ⟨by rfl, ?_⟩) (by assumption) ?_
  rotate_left
  · (intro w' hSw; (try dsimp only at hSw); go_simp <;> (with_reducible rfl))
  try simp only [Act.put, List.setIfInBounds_toArray, List.set_cons_zero, List.set_cons_succ]
  refine wpAnyH_take (i := 1) (oi := ⟨some 14, _, _, _, _, _⟩) (v := ?_) rfl (by kernel_rfl) (by kernel_rfl) (by kernel_rfl) (fun _ _ _ h => h) (Or.inl ⟨by rfl, ?_⟩) (by assumption) ?_
  rotate_left
  · (intro w' hSw; (try dsimp only at hSw); go_simp <;> (with_reducible rfl))
  try simp only [Act.put, List.setIfInBounds_toArray, List.set_cons_zero, List.set_cons_succ]
  refine wpAnyH_take (i := 2) (oi := ⟨some 15, _, _, _, _, _⟩) (v := ?_) rfl (by kernel_rfl) (by kernel_rfl) (by kernel_rfl) (fun _ _ _ h => h) (Or.inl ⟨by rfl, ?_⟩) (by assumption) ?_
  rotate_left
  · (intro w' hSw; (try dsimp only at hSw); go_simp <;> (with_reducible rfl))
  try simp only [Act.put, List.setIfInBounds_toArray, List.set_cons_zero, List.set_cons_succ]
  refine wpAnyH_take (i := 3) (oi := ⟨some 16, _, _, _, _, _⟩) (v := ?_) rfl (by kernel_rfl) (by kernel_rfl) (by kernel_rfl) (fun _ _ _ h => h) (Or.inl ⟨by rfl, ?_⟩) (by assumption) ?_
  rotate_left
  · (intro w' hSw; (try dsimp only at hSw); go_simp <;> (with_reducible rfl))
  try simp only [Act.put, List.setIfInBounds_toArray, List.set_cons_zero, List.set_cons_succ]
  refine wpAnyH_take (i := 4) (oi := ⟨some 17, _, _, _, _, _⟩) (v := ?_) rfl (by kernel_rfl) (by kernel_rfl) (by kernel_rfl) (fun _ _ _ h => h) (Or.inl ⟨by rfl, ?_⟩) (by assumption) ?_
  rotate_left
  · (intro w' hSw; (try dsimp only at hSw); go_simp <;> (with_reducible rfl))
  try simp only [Act.put, List.setIfInBounds_toArray, List.set_cons_zero, List.set_cons_succ]
  refine wpAnyH_take (i := 5) (oi := ⟨some 18, _, _, _, _, _⟩) (v := ?_) rfl (by kernel_rfl) (by kernel_rfl) (by kernel_rfl) (fun _ _ _ h => h) (Or.inl ⟨by rfl, ?_⟩) (by assumption) ?_
  rotate_left
  · (intro w' hSw; (try dsimp only at hSw); go_simp <;> (with_reducible rfl))
  try simp only [Act.put, List.setIfInBounds_toArray, List.set_cons_zero, List.set_cons_succ]
  refine wpAnyH_take (i := 6) (oi := ⟨some 19, _, _, _, _, _⟩) (v := ?_) rfl (by kernel_rfl) (by kernel_rfl) (by kernel_rfl) (fun _ _ _ h => h) (Or.inl ⟨by rfl, ?_⟩) (by assumption) ?_
  rotate_left
  · (intro w' hSw; (try dsimp only at hSw); go_simp <;> (with_reducible rfl))
  try simp only [Act.put, List.setIfInBounds_toArray, List.set_cons_zero, List.set_cons_succ]
  refine wpAnyH_take (i := 7) (oi := ⟨some 20, _, _, _, _, _⟩) (v := ?_) rfl (by kernel_rfl) (by kernel_rfl) (by kernel_rfl) (fun _ _ _ h => h) (Or.inl ⟨by rfl, ?_⟩) (by assumption) ?_
  rotate_left
  · (intro w' hSw; (try dsimp only at hSw); go_simp <;> (with_reducible rfl))
  try simp only [Act.put, List.setIfInBounds_toArray, List.set_cons_zero, List.set_cons_succ]
  refine wpAnyH_take (i := 8) (oi := ⟨some 21, _, _, _, _, _⟩) (v := ?_) rfl (by kernel_rfl) (by kernel_rfl) (by kernel_rfl) (fun _ _ _ h => h) (Or.inl ⟨by rfl, ?_⟩) (by assumption) ?_
  rotate_left
  · (intro w' hSw; (try dsimp only at hSw); go_simp <;> (with_reducible rfl))
  try simp only [Act.put, List.setIfInBounds_toArray, List.set_cons_zero, List.set_cons_succ]
  refine wpAnyH_take (i := 9) (oi := ⟨some 22, _, _, _, _, _⟩) (v := ?_) rfl (by kernel_rfl) (by kernel_rfl) (by kernel_rfl) (fun _ _ _ h => h) (Or.inl ⟨by rfl, ?_⟩) (by assumption) ?_
  rotate_left
  · (intro w' hSw; (try dsimp only at hSw); go_simp <;> (with_reducible rfl))
  try simp only [Act.put, List.setIfInBounds_toArray, List.set_cons_zero, List.set_cons_succ]
  refine wpAnyH_ready (rs := [10]) (by kernel_rfl) (by simp) ?_
  refine AllReadyH.cons (o := ⟨none, _, _, _, _, _⟩) rfl (fun K' hK => ?_) AllReadyH.nil
  go_simp
  have HBB := hide (b82.put3 (.int .i64 (R.tdiv D)) (.int .i64 (I.tdiv D)) (.int .i64 (s.tdiv D)))
  have HBL := hide (((hB2.setCell (p := ⟨w.heap.size, 0, none⟩) (Nat.le_refl _) (.int .i64 (R.tdiv D))).setCell (p := ⟨w.heap.size, 1, none⟩) (Nat.le_refl _) (.int .i64 (I.tdiv D))).setCell (p := ⟨w.heap.size, 2, none⟩) (Nat.le_refl _) (.int .i64 (s.tdiv D)))
  refine hK.out _ _ trivial (fun hHeld => ?_)
  clear hK K'
  try simp only [Act.put, List.setIfInBounds_toArray, List.set_cons_zero, List.set_cons_succ]
  refine wpAnyH_done (by kernel_rfl) ?_ _
  go_wp2_with fail
  obtain ⟨y0, y1, y2, -⟩ := HBB.out.cells3
  refine bodyPost_ret (v := .agg #[.int .i64 (R.tdiv D), .int .i64 (I.tdiv D), .int .i64 (s.tdiv D)]) ?_ rfl ⟨rfl, HBL.out.drew⟩
  simp [results, Try.results71, go_sem, y0, y1, y2]
set_option maxHeartbeats 2000000 in
set_option maxRecDepth 100000 in
/-- Two lists that are alike. -/
theorem phasors_alike (A B : Option Addr) (n c d : Nat) (F G : Nat → Pha) (w : World) (hn : n ≤ 1000000) (hI : PhasAt w 0 A n F) (hJ : PhasAt w 0 B n G) (he : ∀ j, j < n → F j = G j) :
    Calls Try.prog 31 #[.slice A n c, .slice B n d] w fun e w' => e = .returned (.bool true) ∧ Below w.heap.size w w' := by
  have HI := hide hI
  have HJ := hide (hJ.congr fun j hj => (he j hj).symm)
  have t1 : ((n : Int) != (n : Int)) = false := by simp
  clear hI hJ he
  go_enter Try.func31, Try.ntmps31
  go_wp2_with fail
  go_loopw [5] (fun i wr => ∃ k : Nat, k ≤ n ∧ i = .int .i64 (k : Int) ∧ Below w.heap.size w wr) (fun i _ => n - (Go.RowKit.intOf i).toNat)
  case atStart => exact ⟨0, Nat.zero_le _, rfl, Below.refl _ _⟩
  case round =>
    obtain ⟨k, hk, rfl, hB⟩ := hrel
    obtain ⟨wA, rfl⟩ : ∃ x : World, x = wr := ⟨_, rfl⟩
    by_cases hlt : k < n
    · have hltz : (k : Int) < (n : Int) := by omega
      obtain ⟨b, o, rfl, -, -, c0, c1, c2⟩ := (HI.out.below hB) k hlt
      obtain ⟨b', o', rfl, -, -, d0, d1, d2⟩ := (HJ.out.below hB) k hlt
      generalize F k = x at *
      have HB := hide hB
      clear hB
      go_wp2_with fail
      go_quiet (fail)
      go_wp2_with fail
      go_roundw
      case rel => exact ⟨k + 1, by omega, by go_num, Go.below_drewN HB.out _⟩
      case measure => simp [Go.RowKit.intOf]; omega
    · obtain rfl : k = n := by omega
      have hltz : ¬ ((k : Int) < (k : Int)) := by omega
      have HB := hide hB
      clear hB
      go_wp2_with fail
      go_ret
      exact ⟨rfl, HB.out⟩
theorem lowP_betP (a b : Gau) (k s : Int) : lowP (a.re * (s - k) + b.re * k) (a.im * (s - k) + b.im * k) s = betP a b k s := rfl
theorem lowP_last (x : Gau) {s : Int} (hs : 0 < s) : lowP x.re x.im 1 = betP x x 0 s := by
  have e1 : btw x.re x.re 0 s = x.re * s := by unfold btw; grind
  have e2 : btw x.im x.im 0 s = x.im * s := by unfold btw; grind
  have hD : betD x x 0 s = s.natAbs := by
    unfold betD
    rw [e1, e2, Int.gcd_mul_right]
    unfold Int.gcd
    rw [Int.natAbs_natCast]
    exact Nat.gcd_eq_left (Nat.dvd_mul_left _ _)
  have hDs : ((betD x x 0 s : Nat) : Int) = s := by rw [hD]; omega
  have hs0 : s ≠ 0 := by omega
  have hone : (Int.gcd 1 ((Int.gcd x.re x.im : Nat) : Int) : Nat) = 1 := by
    unfold Int.gcd
    exact Nat.gcd_one_left _
  unfold lowP betP
  rw [hDs, e1, e2, Int.mul_tdiv_cancel _ hs0, Int.mul_tdiv_cancel _ hs0, Int.tdiv_self hs0, hone]
  simp
end Go.Proofs.Ytmcgmlhpbpjmgaa
/- Interpolated of the reference. -/
namespace Go.Proofs.Ytmcgmlhpbpjmgaa
open Go.RowKit
set_option maxHeartbeats 8000000 in
set_option maxRecDepth 100000 in
theorem interpolatedR_any (A : Option Addr) (n c : Nat) (F : Nat → Gau) (u : Nat) (w : World) (hn0 : 0 < n) (hn : n ≤ 40) (hu : 1 ≤ u ∧ u ≤ 20) (hF : ∀ j, j < n → (F j).Within 10000) (hI : GausAt w 0 A n F) :
    Calls Try.prog 32 #[.slice A n c, .int .i64 (u : Int)] w fun e w' => ∃ v, e = .returned v ∧ OwnPhas w' w.heap.size v ((n - 1) * u + 1) (interF F u) ∧ Below w.heap.size w w' := by
  have HFW := hide hF
  have HIA := hide (fun i k (hk : k < u) => interF_at F (i := i) (s := u) (k := k) hk)
  have HIL := hide (fun i => interF_last F (s := u) (i := i) (by omega))
  have HI := hide hI
  obtain ⟨b, o, rfl, -, hb, -⟩ := hI 0 hn0
  obtain ⟨m, hm⟩ : ∃ m, m = n - 1 := ⟨_, rfl⟩
  rw [← hm]
  have HM := hide (show n = m + 1 by omega)
  have HMU := hide (fun i (hi : i ≤ m) => (show i * u ≤ 800 from Nat.le_trans (Nat.mul_le_mul hi hu.2) (by omega)))
  have HPH := hide (fun i j (hi : i < n) (hj : j < n) (k : Int) (hk : 0 ≤ k ∧ k ≤ (u : Int)) W => phasorOf_any ((F i).re * ((u : Int) - k) + (F j).re * k) ((F i).im * ((u : Int) - k) + (F j).im * k) (u : Int) W (by have := btw_parts (hF i hi).re (hF j hj).re hk (by omega); omega) (by have := btw_parts (hF i hi).im (hF j hj).im hk (by omega); omega) (by omega))
  have HPL := hide (fun W => phasorOf_any (F m).re (F m).im 1 W (by have := (hF m (by omega)).re; omega) (by have := (hF m (by omega)).im; omega) (by decide))
  have HLL := hide (show interF F u (m * u) = lowP (F m).re (F m).im 1 from (HIL.out m).trans (lowP_last (F m) (by omega)).symm)
  have HN := hide (show 1 ≤ m + 1 ∧ m ≤ 39 by omega)
  have hnz : (1 : Int) ≤ (n : Int) := by omega
  clear hI hF hm
  go_enter Try.func32, Try.ntmps32
  go_wp2_with fail
  go_loopw [5, 6] (fun v iv wr => ∃ i q : Nat, i ≤ m ∧ Hid (q = i * u) ∧ iv = .int .i64 (i : Int) ∧ OwnPhas wr w.heap.size v q (interF F u) ∧ Below w.heap.size w wr) (fun _ iv _ => m - (Go.RowKit.intOf iv).toNat)
  case atStart => exact ⟨0, 0, Nat.zero_le _, hide (by simp), rfl, ownPhas_nil _ _ _, Below.refl _ _⟩
  case round =>
    obtain ⟨i, q, him, HQ, rfl, ho, hB⟩ := hrel
    obtain ⟨wA, rfl⟩ : ∃ x : World, x = wr := ⟨_, rfl⟩
    have hq8 : q ≤ 800 := by rw [HQ.out]; exact HMU.out i him
    have hi39 : i ≤ 39 := by have := HN.out; omega
    obtain ⟨j, hj⟩ : ∃ j, j = i + 1 := ⟨_, rfl⟩
    have p1 : IntKind.i64.wrap ((i : Int) + 1) = (j : Int) := by rw [show (i : Int) + 1 = (j : Int) by omega]; exact IntWalk.i64_in _ (by omega)
    have HJ := hide hj
    by_cases hlt : i < m
    · have hjz : (j : Int) < (n : Int) := by have := HM.out; omega
      have hiz : (i : Int) < (n : Int) := by have := HM.out; omega
      have hin : i < n := by have := HM.out; omega
      have hjn : j < n := by have := HM.out; omega
      have HPi := hide (fun (k : Int) (hk : 0 ≤ k ∧ k ≤ (u : Int)) W => HPH.out i j hin hjn k hk W)
      have HIAi := hide (fun k (hk : k < u) => HIA.out i k hk)
      rw [← hj] at HIAi
      have HIi := hide (HI.out i hin)
      have HIj := hide (HI.out j hjn)
      have HWx := hide (HFW.out i hin)
      have HWy := hide (HFW.out j hjn)
      obtain ⟨x, hx⟩ : ∃ x, x = F i := ⟨_, rfl⟩
      obtain ⟨y, hy⟩ : ∃ y, y = F j := ⟨_, rfl⟩
      rw [← hx] at HPi HIAi HIi HWx
      rw [← hy] at HPi HIAi HIj HWy
      have HQi := hide (show (i + 1) * u = i * u + u from Nat.succ_mul i u)
      clear hx hy hj
      go_wp2_with fail
      go_loopw [5, 7] (fun v kv wr => ∃ k r : Nat, k ≤ u ∧ Hid (r = i * u + k) ∧ kv = .int .i64 (k : Int) ∧ OwnPhas wr w.heap.size v r (interF F u) ∧ Below w.heap.size w wr) (fun _ kv _ => u - (Go.RowKit.intOf kv).toNat)
      case atStart => exact ⟨0, q, Nat.zero_le _, hide (by rw [Nat.add_zero]; exact HQ.out), rfl, ho, hB⟩
      case round =>
        clear ho hB
        obtain ⟨k, r, hku, HR, rfl, ho, hB⟩ := hrel
        obtain ⟨wB, rfl⟩ : ∃ x : World, x = wr := ⟨_, rfl⟩
        obtain ⟨P, p9, rfl, hp9, hP⟩ := ownPhas_form ho
        have hBs := hB.size
        by_cases hk : k < u
        · have hkz : (k : Int) < (u : Int) := by omega
          obtain ⟨b', o', e', -, hb1, c0, c1⟩ := HIi.out
          injection e' with e'
          injection e' with e1 e2
          subst e1
          subst e2
          obtain ⟨b', o', e', -, hb2, d0, d1⟩ := HIj.out
          injection e' with e'
          injection e' with e1 e2
          subst e1
          subst e2
          have HPk := hide (fun W => HPi.out (k : Int) ⟨by omega, by omega⟩ W)
          have HV := hide (HIAi.out k hk)
          have hbt1 := btw_parts HWx.out.re HWy.out.re (show 0 ≤ (k : Int) ∧ (k : Int) ≤ (u : Int) by omega) (by omega)
          have hbt2 := btw_parts HWx.out.im HWy.out.im (show 0 ≤ (k : Int) ∧ (k : Int) ≤ (u : Int) by omega) (by omega)
          obtain ⟨z, hz⟩ : ∃ z, z = lowP (x.re * ((u : Int) - (k : Int)) + y.re * (k : Int)) (x.im * ((u : Int) - (k : Int)) + y.im * (k : Int)) (u : Int) := ⟨_, rfl⟩
          have HV2 := hide (show interF F u (i * u + k) = z by rw [HV.out, hz, lowP_betP])
          rw [← hz] at HPk
          obtain ⟨R1, hR1⟩ : ∃ z, z = x.re * ((u : Int) - (k : Int)) + y.re * (k : Int) := ⟨_, rfl⟩
          obtain ⟨I1, hI1⟩ : ∃ z, z = x.im * ((u : Int) - (k : Int)) + y.im * (k : Int) := ⟨_, rfl⟩
          rw [← hR1, ← hI1] at HPk
          have q1 : IntKind.i64.wrap ((u : Int) - (k : Int)) = (u : Int) - (k : Int) := IntWalk.i64_in _ (by omega)
          have q2 : IntKind.i64.wrap (x.re * ((u : Int) - (k : Int))) = x.re * ((u : Int) - (k : Int)) := IntWalk.i64_in _ (by omega)
          have q3 : IntKind.i64.wrap (y.re * (k : Int)) = y.re * (k : Int) := IntWalk.i64_in _ (by omega)
          have q4 : IntKind.i64.wrap (x.re * ((u : Int) - (k : Int)) + y.re * (k : Int)) = R1 := by rw [hR1]; exact IntWalk.i64_in _ (by omega)
          have q5 : IntKind.i64.wrap (x.im * ((u : Int) - (k : Int))) = x.im * ((u : Int) - (k : Int)) := IntWalk.i64_in _ (by omega)
          have q6 : IntKind.i64.wrap (y.im * (k : Int)) = y.im * (k : Int) := IntWalk.i64_in _ (by omega)
          have q7 : IntKind.i64.wrap (x.im * ((u : Int) - (k : Int)) + y.im * (k : Int)) = I1 := by rw [hI1]; exact IntWalk.i64_in _ (by omega)
          have hr9 : r ≤ 900 := by rw [HR.out]; have := HMU.out i him; omega
          have HCI := hide (fun W' (h : Below w.heap.size w W') => (⟨(h.cell (p := ⟨b, o + i * 2, none⟩) hb1).trans c0, (h.cell (p := ⟨b, o + i * 2 + 1, none⟩) hb1).trans c1, (h.cell (p := ⟨b, o + j * 2, none⟩) hb2).trans d0, (h.cell (p := ⟨b, o + j * 2 + 1, none⟩) hb2).trans d1⟩ : W'.cell? ⟨b, o + i * 2, none⟩ = some (.int .i64 x.re) ∧ W'.cell? ⟨b, o + i * 2 + 1, none⟩ = some (.int .i64 x.im) ∧ W'.cell? ⟨b, o + j * 2, none⟩ = some (.int .i64 y.re) ∧ W'.cell? ⟨b, o + j * 2 + 1, none⟩ = some (.int .i64 y.im)))
          have hS1 := HCI.out _ hB
          have HO := hide ho
          have HB := hide hB
          clear hz ho hB hP c0 c1 d0 d1 hb1 hb2 hR1 hI1 hbt1 hbt2 HV
          go_upto_region 8 with fail
          refine wp_region_held_drew (S := fun w' => w'.cell? ⟨b, o + i * 2, none⟩ = some (.int .i64 x.re) ∧ w'.cell? ⟨b, o + i * 2 + 1, none⟩ = some (.int .i64 x.im) ∧ w'.cell? ⟨b, o + j * 2, none⟩ = some (.int .i64 y.re) ∧ w'.cell? ⟨b, o + j * 2 + 1, none⟩ = some (.int .i64 y.im)) (by kernel_rfl) hS1 (fun hHeld => ?_)
          clear hS1
          refine wpAnyH_take (i := 0) (oi := ⟨some 20, _, _, _, _, _⟩) (v := ?_) rfl (by kernel_rfl) (by kernel_rfl) (by kernel_rfl) (fun _ _ _ h => h) (Or.inl ⟨by rfl, ?_⟩) (by assumption) ?_
          rotate_left
          · (intro w' hSw; (try dsimp only at hSw); go_simp <;> (with_reducible rfl))
          try simp only [Act.put, List.setIfInBounds_toArray, List.set_cons_zero, List.set_cons_succ]
          refine wpAnyH_take (i := 1) (oi := ⟨some 21, _, _, _, _, _⟩) (v := ?_) rfl (by kernel_rfl) (by kernel_rfl) (by kernel_rfl) (fun _ _ _ h => h) (Or.inl ⟨by rfl, ?_⟩) (by assumption) ?_
          rotate_left
          · (intro w' hSw; (try dsimp only at hSw); go_simp <;> (with_reducible rfl))
          try simp only [Act.put, List.setIfInBounds_toArray, List.set_cons_zero, List.set_cons_succ]
          refine wpAnyH_take (i := 2) (oi := ⟨some 22, _, _, _, _, _⟩) (v := ?_) rfl (by kernel_rfl) (by kernel_rfl) (by kernel_rfl) (fun _ _ _ h => h) (Or.inl ⟨by rfl, ?_⟩) (by assumption) ?_
          rotate_left
          · (intro w' hSw; (try dsimp only at hSw); go_simp <;> (with_reducible rfl))
          try simp only [Act.put, List.setIfInBounds_toArray, List.set_cons_zero, List.set_cons_succ]
          refine wpAnyH_take (i := 3) (oi := ⟨some 23, _, _, _, _, _⟩) (v := ?_) rfl (by kernel_rfl) (by kernel_rfl) (by kernel_rfl) (fun _ _ _ h => h) (Or.inl ⟨by rfl, ?_⟩) (by assumption) ?_
          rotate_left
          · (intro w' hSw; (try dsimp only at hSw); go_simp <;> (with_reducible rfl))
          try simp only [Act.put, List.setIfInBounds_toArray, List.set_cons_zero, List.set_cons_succ]
          refine wpAnyH_take (i := 4) (oi := ⟨some 24, _, _, _, _, _⟩) (v := ?_) rfl (by kernel_rfl) (by kernel_rfl) (by kernel_rfl) (fun _ _ _ h => h) (Or.inl ⟨by rfl, ?_⟩) (by assumption) ?_
          rotate_left
          · (intro w' hSw; (try dsimp only at hSw); go_simp <;> (with_reducible rfl))
          try simp only [Act.put, List.setIfInBounds_toArray, List.set_cons_zero, List.set_cons_succ]
          refine wpAnyH_take (i := 5) (oi := ⟨some 25, _, _, _, _, _⟩) (v := ?_) rfl (by kernel_rfl) (by kernel_rfl) (by kernel_rfl) (fun _ _ _ h => h) (Or.inl ⟨by rfl, ?_⟩) (by assumption) ?_
          rotate_left
          · (intro w' hSw; (try dsimp only at hSw); go_simp <;> (with_reducible rfl))
          try simp only [Act.put, List.setIfInBounds_toArray, List.set_cons_zero, List.set_cons_succ]
          refine wpAnyH_take (i := 6) (oi := ⟨some 26, _, _, _, _, _⟩) (v := ?_) rfl (by kernel_rfl) (by kernel_rfl) (by kernel_rfl) (fun _ _ _ h => h) (Or.inl ⟨by rfl, ?_⟩) (by assumption) ?_
          rotate_left
          · (intro w' hSw; (try dsimp only at hSw); go_simp <;> (with_reducible rfl))
          try simp only [Act.put, List.setIfInBounds_toArray, List.set_cons_zero, List.set_cons_succ]
          refine wpAnyH_take (i := 7) (oi := ⟨some 27, _, _, _, _, _⟩) (v := ?_) rfl (by kernel_rfl) (by kernel_rfl) (by kernel_rfl) (fun _ _ _ h => h) (Or.inl ⟨by rfl, ?_⟩) (by assumption) ?_
          rotate_left
          · (intro w' hSw; (try dsimp only at hSw); go_simp <;> (with_reducible rfl))
          try simp only [Act.put, List.setIfInBounds_toArray, List.set_cons_zero, List.set_cons_succ]
          refine wpAnyH_take (i := 8) (oi := ⟨some 28, _, _, _, _, _⟩) (v := ?_) rfl (by kernel_rfl) (by kernel_rfl) (by kernel_rfl) (fun _ _ _ h => h) (Or.inl ⟨by rfl, ?_⟩) (by assumption) ?_
          rotate_left
          · (intro w' hSw; (try dsimp only at hSw); go_simp <;> (with_reducible rfl))
          try simp only [Act.put, List.setIfInBounds_toArray, List.set_cons_zero, List.set_cons_succ]
          refine wpAnyH_take (i := 9) (oi := ⟨some 29, _, _, _, _, _⟩) (v := ?_) rfl (by kernel_rfl) (by kernel_rfl) (by kernel_rfl) (fun _ _ _ h => h) (Or.inl ⟨by rfl, ?_⟩) (by assumption) ?_
          rotate_left
          · (intro w' hSw; (try dsimp only at hSw); go_simp <;> (with_reducible rfl))
          try simp only [Act.put, List.setIfInBounds_toArray, List.set_cons_zero, List.set_cons_succ]
          refine wpAnyH_take (i := 10) (oi := ⟨some 30, _, _, _, _, _⟩) (v := ?_) rfl (by kernel_rfl) (by kernel_rfl) (by kernel_rfl) (fun _ _ _ h => h) (Or.inl ⟨by rfl, ?_⟩) (by assumption) ?_
          rotate_left
          · (intro w' hSw; (try dsimp only at hSw); go_simp <;> (with_reducible rfl))
          try simp only [Act.put, List.setIfInBounds_toArray, List.set_cons_zero, List.set_cons_succ]
          refine wpAnyH_take (i := 11) (oi := ⟨some 31, _, _, _, _, _⟩) (v := ?_) rfl (by kernel_rfl) (by kernel_rfl) (by kernel_rfl) (fun _ _ _ h => h) (Or.inl ⟨by rfl, ?_⟩) (by assumption) ?_
          rotate_left
          · (intro w' hSw; (try dsimp only at hSw); go_simp <;> (with_reducible rfl))
          try simp only [Act.put, List.setIfInBounds_toArray, List.set_cons_zero, List.set_cons_succ]
          refine wpAnyH_take (i := 12) (oi := ⟨some 32, _, _, _, _, _⟩) (v := ?_) rfl (by kernel_rfl) (by kernel_rfl) (by kernel_rfl) (fun _ _ _ h => h) (Or.inl ⟨by rfl, ?_⟩) (by assumption) ?_
          rotate_left
          · (intro w' hSw; (try dsimp only at hSw); go_simp <;> (with_reducible rfl))
          try simp only [Act.put, List.setIfInBounds_toArray, List.set_cons_zero, List.set_cons_succ]
          refine wpAnyH_take (i := 13) (oi := ⟨some 33, _, _, _, _, _⟩) (v := ?_) rfl (by kernel_rfl) (by kernel_rfl) (by kernel_rfl) (fun _ _ _ h => h) (Or.inl ⟨by rfl, ?_⟩) (by assumption) ?_
          rotate_left
          · (intro w' hSw; (try dsimp only at hSw); go_simp <;> (with_reducible rfl))
          try simp only [Act.put, List.setIfInBounds_toArray, List.set_cons_zero, List.set_cons_succ]
          refine wpAnyH_take (i := 14) (oi := ⟨some 34, _, _, _, _, _⟩) (v := ?_) rfl (by kernel_rfl) (by kernel_rfl) (by kernel_rfl) (fun _ _ _ h => h) (Or.inl ⟨by rfl, ?_⟩) (by assumption) ?_
          rotate_left
          · (intro w' hSw; (try dsimp only at hSw); go_simp <;> (with_reducible rfl))
          try simp only [Act.put, List.setIfInBounds_toArray, List.set_cons_zero, List.set_cons_succ]
          refine wpAnyH_take (i := 15) (oi := ⟨some 35, _, _, _, _, _⟩) (v := ?_) rfl (by kernel_rfl) (by kernel_rfl) (by kernel_rfl) (fun _ _ _ h => h) (Or.inl ⟨by rfl, ?_⟩) (by assumption) ?_
          rotate_left
          · (intro w' hSw; (try dsimp only at hSw); go_simp <;> (with_reducible rfl))
          try simp only [Act.put, List.setIfInBounds_toArray, List.set_cons_zero, List.set_cons_succ]
          refine wpAnyH_take (i := 16) (oi := ⟨some 36, _, _, _, _, _⟩) (v := ?_) rfl (by kernel_rfl) (by kernel_rfl) (by kernel_rfl) (fun _ _ _ h => h) (Or.inl ⟨by rfl, ?_⟩) (by assumption) ?_
          rotate_left
          · (intro w' hSw; (try dsimp only at hSw); go_simp <;> (with_reducible rfl))
          try simp only [Act.put, List.setIfInBounds_toArray, List.set_cons_zero, List.set_cons_succ]
          refine wpAnyH_take (i := 17) (oi := ⟨some 37, _, _, _, _, _⟩) (v := ?_) rfl (by kernel_rfl) (by kernel_rfl) (by kernel_rfl) (fun _ _ _ h => h) (Or.inl ⟨by rfl, ?_⟩) (by assumption) ?_
          rotate_left
          · (intro w' hSw; (try dsimp only at hSw); go_simp <;> (with_reducible rfl))
          try simp only [Act.put, List.setIfInBounds_toArray, List.set_cons_zero, List.set_cons_succ]
          refine wpAnyH_take (i := 18) (oi := ⟨some 38, _, _, _, _, _⟩) (v := ?_) rfl (by kernel_rfl) (by kernel_rfl) (by kernel_rfl) (fun _ _ _ h => h) (Or.inl ⟨by rfl, ?_⟩) (by assumption) ?_
          rotate_left
          · (intro w' hSw; (try dsimp only at hSw); go_simp <;> (with_reducible rfl))
          try simp only [Act.put, List.setIfInBounds_toArray, List.set_cons_zero, List.set_cons_succ]
          refine wpAnyH_take (i := 19) (oi := ⟨some 39, _, _, _, _, _⟩) (v := ?_) rfl (by kernel_rfl) (by kernel_rfl) (by kernel_rfl) (fun _ _ _ h => h) (Or.inl ⟨by rfl, ?_⟩) (by assumption) ?_
          rotate_left
          · (intro w' hSw; (try dsimp only at hSw); go_simp <;> (with_reducible rfl))
          try simp only [Act.put, List.setIfInBounds_toArray, List.set_cons_zero, List.set_cons_succ]
          refine wpAnyH_take (i := 20) (oi := ⟨some 40, _, _, _, _, _⟩) (v := ?_) rfl (by kernel_rfl) (by kernel_rfl) (by kernel_rfl) (fun _ _ _ h => h) (Or.inl ⟨by rfl, ?_⟩) (by assumption) ?_
          rotate_left
          · (intro w' hSw; (try dsimp only at hSw); go_simp <;> (with_reducible rfl))
          try simp only [Act.put, List.setIfInBounds_toArray, List.set_cons_zero, List.set_cons_succ]
          refine wpAnyH_take (i := 21) (oi := ⟨some 41, _, _, _, _, _⟩) (v := ?_) rfl (by kernel_rfl) (by kernel_rfl) (by kernel_rfl) (fun _ _ _ h => h) (Or.inl ⟨by rfl, ?_⟩) (by assumption) ?_
          rotate_left
          · (intro w' hSw; (try dsimp only at hSw); go_simp <;> (with_reducible rfl))
          try simp only [Act.put, List.setIfInBounds_toArray, List.set_cons_zero, List.set_cons_succ]
          refine wpAnyH_take (i := 22) (oi := ⟨some 42, _, _, _, _, _⟩) (v := ?_) rfl (by kernel_rfl) (by kernel_rfl) (by kernel_rfl) (fun _ _ _ h => h) (Or.inl ⟨by rfl, ?_⟩) (by assumption) ?_
          rotate_left
          · (intro w' hSw; (try dsimp only at hSw); go_simp <;> (with_reducible rfl))
          try simp only [Act.put, List.setIfInBounds_toArray, List.set_cons_zero, List.set_cons_succ]
          refine wpAnyH_take (i := 23) (oi := ⟨some 43, _, _, _, _, _⟩) (v := ?_) rfl (by kernel_rfl) (by kernel_rfl) (by kernel_rfl) (fun _ _ _ h => h) (Or.inl ⟨by rfl, ?_⟩) (by assumption) ?_
          rotate_left
          · (intro w' hSw; (try dsimp only at hSw); go_simp <;> (with_reducible rfl))
          try simp only [Act.put, List.setIfInBounds_toArray, List.set_cons_zero, List.set_cons_succ]
          refine wpAnyH_take (i := 24) (oi := ⟨some 44, _, _, _, _, _⟩) (v := ?_) rfl (by kernel_rfl) (by kernel_rfl) (by kernel_rfl) (fun _ _ _ h => h) (Or.inl ⟨by rfl, ?_⟩) (by assumption) ?_
          rotate_left
          · (intro w' hSw; (try dsimp only at hSw); go_simp <;> (with_reducible rfl))
          try simp only [Act.put, List.setIfInBounds_toArray, List.set_cons_zero, List.set_cons_succ]
          refine wpAnyH_take (i := 25) (oi := ⟨some 45, _, _, _, _, _⟩) (v := ?_) rfl (by kernel_rfl) (by kernel_rfl) (by kernel_rfl) (fun _ _ _ h => h) (Or.inl ⟨by rfl, ?_⟩) (by assumption) ?_
          rotate_left
          · (intro w' hSw; (try dsimp only at hSw); go_simp <;> (with_reducible rfl))
          try simp only [Act.put, List.setIfInBounds_toArray, List.set_cons_zero, List.set_cons_succ]
          refine wpAnyH_take (i := 26) (oi := ⟨some 46, _, _, _, _, _⟩) (v := ?_) rfl (by kernel_rfl) (by kernel_rfl) (by kernel_rfl) (fun _ _ _ h => h) (Or.inl ⟨by rfl, ?_⟩) (by assumption) ?_
          rotate_left
          · (intro w' hSw; (try dsimp only at hSw); go_simp <;> (with_reducible rfl))
          try simp only [Act.put, List.setIfInBounds_toArray, List.set_cons_zero, List.set_cons_succ]
          refine wpAnyH_take (i := 27) (oi := ⟨some 47, _, _, _, _, _⟩) (v := ?_) rfl (by kernel_rfl) (by kernel_rfl) (by kernel_rfl) (fun _ _ _ h => h) (Or.inl ⟨by rfl, ?_⟩) (by assumption) ?_
          rotate_left
          · (intro w' hSw; (try dsimp only at hSw); go_simp <;> (with_reducible rfl))
          try simp only [Act.put, List.setIfInBounds_toArray, List.set_cons_zero, List.set_cons_succ]
          refine wpAnyH_take (i := 28) (oi := ⟨some 48, _, _, _, _, _⟩) (v := ?_) rfl (by kernel_rfl) (by kernel_rfl) (by kernel_rfl) (fun _ _ _ h => h) (Or.inl ⟨by rfl, ?_⟩) (by assumption) ?_
          rotate_left
          · (intro w' hSw; (try dsimp only at hSw); go_simp <;> (with_reducible rfl))
          try simp only [Act.put, List.setIfInBounds_toArray, List.set_cons_zero, List.set_cons_succ]
          refine wpAnyH_take (i := 29) (oi := ⟨some 49, _, _, _, _, _⟩) (v := ?_) rfl (by kernel_rfl) (by kernel_rfl) (by kernel_rfl) (fun _ _ _ h => h) (Or.inl ⟨by rfl, ?_⟩) (by assumption) ?_
          rotate_left
          · (intro w' hSw; (try dsimp only at hSw); go_simp <;> (with_reducible rfl))
          try simp only [Act.put, List.setIfInBounds_toArray, List.set_cons_zero, List.set_cons_succ]
          refine wpAnyH_take (i := 30) (oi := ⟨some 50, _, _, _, _, _⟩) (v := ?_) rfl (by kernel_rfl) (by kernel_rfl) (by kernel_rfl) (fun _ _ _ h => h) (Or.inl ⟨by rfl, ?_⟩) (by assumption) ?_
          rotate_left
          · (intro w' hSw; (try dsimp only at hSw); go_simp <;> (with_reducible rfl))
          try simp only [Act.put, List.setIfInBounds_toArray, List.set_cons_zero, List.set_cons_succ]
          refine wpAnyH_take (i := 31) (oi := ⟨some 51, _, _, _, _, _⟩) (v := ?_) rfl (by kernel_rfl) (by kernel_rfl) (by kernel_rfl) (fun _ _ _ h => h) (Or.inl ⟨by rfl, ?_⟩) (by assumption) ?_
          rotate_left
          · (intro w' hSw; (try dsimp only at hSw); go_simp <;> (with_reducible rfl))
          try simp only [Act.put, List.setIfInBounds_toArray, List.set_cons_zero, List.set_cons_succ]
          refine wpAnyH_take (i := 32) (oi := ⟨some 52, _, _, _, _, _⟩) (v := ?_) rfl (by kernel_rfl) (by kernel_rfl) (by kernel_rfl) (fun _ _ _ h => h) (Or.inl ⟨by rfl, ?_⟩) (by assumption) ?_
          rotate_left
          · (intro w' hSw; (try dsimp only at hSw); go_simp <;> (with_reducible rfl))
          try simp only [Act.put, List.setIfInBounds_toArray, List.set_cons_zero, List.set_cons_succ]
          refine wpAnyH_take (i := 33) (oi := ⟨some 53, _, _, _, _, _⟩) (v := ?_) rfl (by kernel_rfl) (by kernel_rfl) (by kernel_rfl) (fun _ _ _ h => h) (Or.inl ⟨by rfl, ?_⟩) (by assumption) ?_
          rotate_left
          · (intro w' hSw; (try dsimp only at hSw); go_simp <;> (with_reducible rfl))
          try simp only [Act.put, List.setIfInBounds_toArray, List.set_cons_zero, List.set_cons_succ]
          refine wpAnyH_take (i := 34) (oi := ⟨some 54, _, _, _, _, _⟩) (v := ?_) rfl (by kernel_rfl) (by kernel_rfl) (by kernel_rfl) (fun _ _ _ h => h) (Or.inl ⟨by rfl, ?_⟩) (by assumption) ?_
          rotate_left
          · (intro w' hSw; (try dsimp only at hSw); go_simp <;> (with_reducible rfl))
          try simp only [Act.put, List.setIfInBounds_toArray, List.set_cons_zero, List.set_cons_succ]
          refine wpAnyH_take (i := 35) (oi := ⟨some 55, _, _, _, _, _⟩) (v := ?_) rfl (by kernel_rfl) (by kernel_rfl) (by kernel_rfl) (fun _ _ _ h => h) (Or.inl ⟨by rfl, ?_⟩) (by assumption) ?_
          rotate_left
          · (intro w' hSw; (try dsimp only at hSw); go_simp <;> (with_reducible rfl))
          try simp only [Act.put, List.setIfInBounds_toArray, List.set_cons_zero, List.set_cons_succ]
          refine wpAnyH_take (i := 36) (oi := ⟨some 56, _, _, _, _, _⟩) (v := ?_) rfl (by kernel_rfl) (by kernel_rfl) (by kernel_rfl) (fun _ _ _ h => h) (Or.inl ⟨by rfl, ?_⟩) (by assumption) ?_
          rotate_left
          · (intro w' hSw; (try dsimp only at hSw); go_simp <;> (with_reducible rfl))
          try simp only [Act.put, List.setIfInBounds_toArray, List.set_cons_zero, List.set_cons_succ]
          refine wpAnyH_take (i := 37) (oi := ⟨some 57, _, _, _, _, _⟩) (v := ?_) rfl (by kernel_rfl) (by kernel_rfl) (by kernel_rfl) (fun _ _ _ h => h) (Or.inl ⟨by rfl, ?_⟩) (by assumption) ?_
          rotate_left
          · (intro w' hSw; (try dsimp only at hSw); go_simp <;> (with_reducible rfl))
          try simp only [Act.put, List.setIfInBounds_toArray, List.set_cons_zero, List.set_cons_succ]
          clear q1 q2 q3 q4 q5 q6 q7
          refine wpAnyH_ready (rs := [38]) (by kernel_rfl) (by simp) ?_
          refine AllReadyH.cons (o := ⟨some 58, _, _, _, _, _⟩) rfl (fun K' hK => ?_) AllReadyH.nil
          go_simp
          go_at_call 71
          refine (HPk.out _).mono ?_
          rintro e w5 ⟨rfl, hb5⟩
          have hc5 : Below wB.heap.size wB w5 := by first | exact hb5 | exact below_of_drew hb5 | exact below_of_drew (below_of_drew hb5)
          have HO5 := hide (HO.out.below hc5)
          have hB5 := HB.out.trans (hc5.mono hBs)
          have hS5 := HCI.out _ hB5
          have hBs5 := hB5.size
          clear hb5 HO HB hc5
          go_wp2_with fail
          refine hK.out _ _ hS5 (fun hHeld => ?_)
          clear hK K'
          try simp only [Act.put, List.setIfInBounds_toArray, List.set_cons_zero, List.set_cons_succ]
          refine wpAnyH_ready (rs := [39]) (by kernel_rfl) (by simp) ?_
          refine AllReadyH.cons (o := ⟨some 59, _, _, _, _, _⟩) rfl (fun K' hK => ?_) AllReadyH.nil
          go_simp
          have hAL : Below w.heap.size w (w5.alloc (.cells #[.int .i64 z.re, .int .i64 z.im, .int .i64 z.den] 63)) := hB5.alloc hBs5 _
          refine hK.out _ _ (HCI.out _ hAL) (fun hHeld => ?_)
          clear hK K'
          try simp only [Act.put, List.setIfInBounds_toArray, List.set_cons_zero, List.set_cons_succ]
          refine wpAnyH_ready (rs := [40]) (by kernel_rfl) (by simp) ?_
          refine AllReadyH.cons (o := ⟨some 60, _, _, _, _, _⟩) rfl (fun K' hK => ?_) AllReadyH.nil
          refine step_append_Phas _ rfl (.tmp 20) (.tmp 59) rfl w.heap.size 0 (.slice P r p9) r _ rfl (HO5.out.alloc _) (some ⟨_, 0, none⟩) 1 1 (fun _ => z) rfl (PhasAt.one (Box.made rfl)) (by omega) (by simp; omega) ?_
          intro v' w' h1 hb4
          have hB6 := hAL.trans hb4
          refine hK.out _ _ (HCI.out _ hB6) (fun hHeld => ?_)
          clear hK K'
          try simp only [Act.put, List.setIfInBounds_toArray, List.set_cons_zero, List.set_cons_succ]
          refine wpAnyH_ready (rs := [41]) (by kernel_rfl) (by simp) ?_
          refine AllReadyH.cons (o := ⟨some 5, _, _, _, _, _⟩) rfl (fun K' hK => ?_) AllReadyH.nil
          go_simp
          refine hK.out _ _ (HCI.out _ hB6) (fun hHeld => ?_)
          clear hK K'
          try simp only [Act.put, List.setIfInBounds_toArray, List.set_cons_zero, List.set_cons_succ]
          refine wpAnyH_done (by kernel_rfl) ?_ _
          go_wp2_with fail
          go_roundw
          case rel =>
            refine ⟨k + 1, r + 1, by omega, hide (by rw [HR.out, Nat.add_assoc]), by go_num, h1.congr fun t ht => ?_, hB6⟩
            unfold catPha
            by_cases e : t < r
            · rw [if_pos e]
            · obtain rfl : t = r := by omega
              rw [if_neg e, HR.out, HV2.out]
          case measure => simp [Go.RowKit.intOf]; omega
        · obtain rfl : k = u := by omega
          have hkz : ¬ ((k : Int) < (k : Int)) := by omega
          have HO := hide ho
          have HB := hide hB
          clear ho hB hP
          go_wp2_with fail
          go_roundw
          case rel => exact ⟨j, r, by have := HJ.out; omega, hide (by rw [HR.out, HJ.out, HQi.out]), rfl, HO.out, HB.out⟩
          case measure => simp [Go.RowKit.intOf]; have := HJ.out; omega
    · obtain rfl : i = m := by omega
      have hjz : ¬ ((j : Int) < (n : Int)) := by have := HM.out; omega
      have hin : i < n := by have := HM.out; omega
      obtain ⟨O, o9, rfl, ho9, hO⟩ := ownPhas_form ho
      obtain ⟨b', o', e', -, hb1, c0, c1⟩ := HI.out i hin
      injection e' with e'
      injection e' with e1 e2
      subst e1
      subst e2
      obtain ⟨x, hx⟩ : ∃ x, x = F i := ⟨_, rfl⟩
      rw [← hx] at c0 c1 HPL HLL
      obtain ⟨z, hz⟩ : ∃ z, z = lowP x.re x.im 1 := ⟨_, rfl⟩
      rw [← hz] at HPL HLL
      have p2 : IntKind.i64.wrap ((n : Int) - 1) = (i : Int) := by have := HM.out; rw [show (n : Int) - 1 = (i : Int) by omega]; exact IntWalk.i64_in _ (by omega)
      have hiz : (i : Int) < (n : Int) := by omega
      have HCI := hide (fun W' (h : Below w.heap.size w W') => (⟨(h.cell (p := ⟨b, o + i * 2, none⟩) hb1).trans c0, (h.cell (p := ⟨b, o + i * 2 + 1, none⟩) hb1).trans c1⟩ : W'.cell? ⟨b, o + i * 2, none⟩ = some (.int .i64 x.re) ∧ W'.cell? ⟨b, o + i * 2 + 1, none⟩ = some (.int .i64 x.im)))
      have hS1 := HCI.out _ hB
      have hBs := hB.size
      have HO := hide ho
      have HB := hide hB
      clear hx hz ho hB hO c0 c1 hb1 hj
      go_upto_region 9 with fail
      refine wp_region_held_drew (S := fun w' => w'.cell? ⟨b, o + i * 2, none⟩ = some (.int .i64 x.re) ∧ w'.cell? ⟨b, o + i * 2 + 1, none⟩ = some (.int .i64 x.im)) (by kernel_rfl) hS1 (fun hHeld => ?_)
      clear hS1
      refine wpAnyH_take (i := 0) (oi := ⟨some 61, _, _, _, _, _⟩) (v := ?_) rfl (by kernel_rfl) (by kernel_rfl) (by kernel_rfl) (fun _ _ _ h => h) (Or.inl ⟨by rfl, ?_⟩) (by assumption) ?_
      rotate_left
      · (intro w' hSw; (try dsimp only at hSw); go_simp <;> (with_reducible rfl))
      try simp only [Act.put, List.setIfInBounds_toArray, List.set_cons_zero, List.set_cons_succ]
      refine wpAnyH_take (i := 1) (oi := ⟨some 62, _, _, _, _, _⟩) (v := ?_) rfl (by kernel_rfl) (by kernel_rfl) (by kernel_rfl) (fun _ _ _ h => h) (Or.inl ⟨by rfl, ?_⟩) (by assumption) ?_
      rotate_left
      · (intro w' hSw; (try dsimp only at hSw); go_simp <;> (with_reducible rfl))
      try simp only [Act.put, List.setIfInBounds_toArray, List.set_cons_zero, List.set_cons_succ]
      refine wpAnyH_take (i := 2) (oi := ⟨some 63, _, _, _, _, _⟩) (v := ?_) rfl (by kernel_rfl) (by kernel_rfl) (by kernel_rfl) (fun _ _ _ h => h) (Or.inl ⟨by rfl, ?_⟩) (by assumption) ?_
      rotate_left
      · (intro w' hSw; (try dsimp only at hSw); go_simp <;> (with_reducible rfl))
      try simp only [Act.put, List.setIfInBounds_toArray, List.set_cons_zero, List.set_cons_succ]
      refine wpAnyH_take (i := 3) (oi := ⟨some 64, _, _, _, _, _⟩) (v := ?_) rfl (by kernel_rfl) (by kernel_rfl) (by kernel_rfl) (fun _ _ _ h => h) (Or.inl ⟨by rfl, ?_⟩) (by assumption) ?_
      rotate_left
      · (intro w' hSw; (try dsimp only at hSw); go_simp <;> (with_reducible rfl))
      try simp only [Act.put, List.setIfInBounds_toArray, List.set_cons_zero, List.set_cons_succ]
      refine wpAnyH_take (i := 4) (oi := ⟨some 65, _, _, _, _, _⟩) (v := ?_) rfl (by kernel_rfl) (by kernel_rfl) (by kernel_rfl) (fun _ _ _ h => h) (Or.inl ⟨by rfl, ?_⟩) (by assumption) ?_
      rotate_left
      · (intro w' hSw; (try dsimp only at hSw); go_simp <;> (with_reducible rfl))
      try simp only [Act.put, List.setIfInBounds_toArray, List.set_cons_zero, List.set_cons_succ]
      refine wpAnyH_take (i := 5) (oi := ⟨some 66, _, _, _, _, _⟩) (v := ?_) rfl (by kernel_rfl) (by kernel_rfl) (by kernel_rfl) (fun _ _ _ h => h) (Or.inl ⟨by rfl, ?_⟩) (by assumption) ?_
      rotate_left
      · (intro w' hSw; (try dsimp only at hSw); go_simp <;> (with_reducible rfl))
      try simp only [Act.put, List.setIfInBounds_toArray, List.set_cons_zero, List.set_cons_succ]
      refine wpAnyH_take (i := 6) (oi := ⟨some 67, _, _, _, _, _⟩) (v := ?_) rfl (by kernel_rfl) (by kernel_rfl) (by kernel_rfl) (fun _ _ _ h => h) (Or.inl ⟨by rfl, ?_⟩) (by assumption) ?_
      rotate_left
      · (intro w' hSw; (try dsimp only at hSw); go_simp <;> (with_reducible rfl))
      try simp only [Act.put, List.setIfInBounds_toArray, List.set_cons_zero, List.set_cons_succ]
      refine wpAnyH_take (i := 7) (oi := ⟨some 68, _, _, _, _, _⟩) (v := ?_) rfl (by kernel_rfl) (by kernel_rfl) (by kernel_rfl) (fun _ _ _ h => h) (Or.inl ⟨by rfl, ?_⟩) (by assumption) ?_
      rotate_left
      · (intro w' hSw; (try dsimp only at hSw); go_simp <;> (with_reducible rfl))
      try simp only [Act.put, List.setIfInBounds_toArray, List.set_cons_zero, List.set_cons_succ]
      refine wpAnyH_take (i := 8) (oi := ⟨some 69, _, _, _, _, _⟩) (v := ?_) rfl (by kernel_rfl) (by kernel_rfl) (by kernel_rfl) (fun _ _ _ h => h) (Or.inl ⟨by rfl, ?_⟩) (by assumption) ?_
      rotate_left
      · (intro w' hSw; (try dsimp only at hSw); go_simp <;> (with_reducible rfl))
      try simp only [Act.put, List.setIfInBounds_toArray, List.set_cons_zero, List.set_cons_succ]
      refine wpAnyH_take (i := 9) (oi := ⟨some 70, _, _, _, _, _⟩) (v := ?_) rfl (by kernel_rfl) (by kernel_rfl) (by kernel_rfl) (fun _ _ _ h => h) (Or.inl ⟨by rfl, ?_⟩) (by assumption) ?_
      rotate_left
      · (intro w' hSw; (try dsimp only at hSw); go_simp <;> (with_reducible rfl))
      try simp only [Act.put, List.setIfInBounds_toArray, List.set_cons_zero, List.set_cons_succ]
      refine wpAnyH_take (i := 10) (oi := ⟨some 71, _, _, _, _, _⟩) (v := ?_) rfl (by kernel_rfl) (by kernel_rfl) (by kernel_rfl) (fun _ _ _ h => h) (Or.inl ⟨by rfl, ?_⟩) (by assumption) ?_
      rotate_left
      · (intro w' hSw; (try dsimp only at hSw); go_simp <;> (with_reducible rfl))
      try simp only [Act.put, List.setIfInBounds_toArray, List.set_cons_zero, List.set_cons_succ]
      refine wpAnyH_take (i := 11) (oi := ⟨some 72, _, _, _, _, _⟩) (v := ?_) rfl (by kernel_rfl) (by kernel_rfl) (by kernel_rfl) (fun _ _ _ h => h) (Or.inl ⟨by rfl, ?_⟩) (by assumption) ?_
      rotate_left
      · (intro w' hSw; (try dsimp only at hSw); go_simp <;> (with_reducible rfl))
      try simp only [Act.put, List.setIfInBounds_toArray, List.set_cons_zero, List.set_cons_succ]
      refine wpAnyH_take (i := 12) (oi := ⟨some 73, _, _, _, _, _⟩) (v := ?_) rfl (by kernel_rfl) (by kernel_rfl) (by kernel_rfl) (fun _ _ _ h => h) (Or.inl ⟨by rfl, ?_⟩) (by assumption) ?_
      rotate_left
      · (intro w' hSw; (try dsimp only at hSw); go_simp <;> (with_reducible rfl))
      try simp only [Act.put, List.setIfInBounds_toArray, List.set_cons_zero, List.set_cons_succ]
      refine wpAnyH_take (i := 13) (oi := ⟨some 74, _, _, _, _, _⟩) (v := ?_) rfl (by kernel_rfl) (by kernel_rfl) (by kernel_rfl) (fun _ _ _ h => h) (Or.inl ⟨by rfl, ?_⟩) (by assumption) ?_
      rotate_left
      · (intro w' hSw; (try dsimp only at hSw); go_simp <;> (with_reducible rfl))
      try simp only [Act.put, List.setIfInBounds_toArray, List.set_cons_zero, List.set_cons_succ]
      refine wpAnyH_take (i := 14) (oi := ⟨some 75, _, _, _, _, _⟩) (v := ?_) rfl (by kernel_rfl) (by kernel_rfl) (by kernel_rfl) (fun _ _ _ h => h) (Or.inl ⟨by rfl, ?_⟩) (by assumption) ?_
      rotate_left
      · (intro w' hSw; (try dsimp only at hSw); go_simp <;> (with_reducible rfl))
      try simp only [Act.put, List.setIfInBounds_toArray, List.set_cons_zero, List.set_cons_succ]
      refine wpAnyH_ready (rs := [15]) (by kernel_rfl) (by simp) ?_
      refine AllReadyH.cons (o := ⟨some 76, _, _, _, _, _⟩) rfl (fun K' hK => ?_) AllReadyH.nil
      go_simp
      go_at_call 71
      refine (HPL.out _).mono ?_
      rintro e w5 ⟨rfl, hb5⟩
      have hc5 : Below wA.heap.size wA w5 := by first | exact hb5 | exact below_of_drew hb5 | exact below_of_drew (below_of_drew hb5)
      have HO5 := hide (HO.out.below hc5)
      have hB5 := HB.out.trans (hc5.mono hBs)
      have hS5 := HCI.out _ hB5
      have hBs5 := hB5.size
      clear hb5 HO HB hc5
      go_wp2_with fail
      refine hK.out _ _ hS5 (fun hHeld => ?_)
      clear hK K'
      try simp only [Act.put, List.setIfInBounds_toArray, List.set_cons_zero, List.set_cons_succ]
      refine wpAnyH_ready (rs := [16]) (by kernel_rfl) (by simp) ?_
      refine AllReadyH.cons (o := ⟨some 77, _, _, _, _, _⟩) rfl (fun K' hK => ?_) AllReadyH.nil
      go_simp
      have hAL : Below w.heap.size w (w5.alloc (.cells #[.int .i64 z.re, .int .i64 z.im, .int .i64 z.den] 63)) := hB5.alloc hBs5 _
      refine hK.out _ _ (HCI.out _ hAL) (fun hHeld => ?_)
      clear hK K'
      try simp only [Act.put, List.setIfInBounds_toArray, List.set_cons_zero, List.set_cons_succ]
      refine wpAnyH_ready (rs := [17]) (by kernel_rfl) (by simp) ?_
      refine AllReadyH.cons (o := ⟨some 78, _, _, _, _, _⟩) rfl (fun K' hK => ?_) AllReadyH.nil
      refine step_append_Phas _ rfl (.tmp 61) (.tmp 77) rfl w.heap.size 0 (.slice O q o9) q _ rfl (HO5.out.alloc _) (some ⟨_, 0, none⟩) 1 1 (fun _ => z) rfl (PhasAt.one (Box.made rfl)) (by omega) (by simp; omega) ?_
      intro v' w' h1 hb4
      have hB6 := hAL.trans hb4
      refine hK.out _ _ (HCI.out _ hB6) (fun hHeld => ?_)
      clear hK K'
      try simp only [Act.put, List.setIfInBounds_toArray, List.set_cons_zero, List.set_cons_succ]
      refine wpAnyH_ready (rs := [18]) (by kernel_rfl) (by simp) ?_
      refine AllReadyH.cons (o := ⟨some 4, _, _, _, _, _⟩) rfl (fun K' hK => ?_) AllReadyH.nil
      go_simp
      refine hK.out _ _ (HCI.out _ hB6) (fun hHeld => ?_)
      clear hK K'
      try simp only [Act.put, List.setIfInBounds_toArray, List.set_cons_zero, List.set_cons_succ]
      refine wpAnyH_done (by kernel_rfl) ?_ _
      go_wp2_with fail
      go_ret
      refine ⟨_, rfl, ?_, hB6⟩
      have h2 := h1.congr (G := interF F u) fun t ht => (show catPha q (interF F u) (fun _ => z) t = interF F u t by
        unfold catPha
        by_cases e : t < q
        · rw [if_pos e]
        · obtain rfl : t = q := by omega
          rw [if_neg e, HQ.out, HLL.out])
      rw [HQ.out] at h2
      exact h2
end Go.Proofs.Ytmcgmlhpbpjmgaa
/- BendOf, BendErr and BetweenErr of the reference. -/
namespace Go.Proofs.Ytmcgmlhpbpjmgaa
open Go.RowKit
theorem run_max3 (w : World) (ts : Array TypeId) (t : TypeId) (k1 k2 k3 : IntKind) (a b c : Int) :
    (Builtin.max_ ts t #[.int k1 a, .int k2 b, .int k3 c]).run Try.prog w = .ok (.int k1 (max (max a b) c)) w := by
  have h : ∀ x y : Int, (if y > x then y else x) = max x y := fun x y => by
    rw [Int.max_def]
    split <;> split <;> omega
  simp [Builtin.max_, Builtin.max2, h]
theorem maxLt (x y : Int) : (if x < y then y else x) = max x y := by
  rw [Int.max_def]
  split <;> split <;> omega
theorem max5_sizes (B u v : Int) : max (max B (max u (-u))) (max v (-v)) = max5 B u (-u) v (-v) := by
  unfold max5
  omega
set_option maxHeartbeats 8000000 in
set_option maxRecDepth 100000 in
theorem bendOfR_any (A : Option Addr) (n c : Nat) (F : Nat → Gau) (w : World) (hn : n ≤ 800) (hF : ∀ j, j < n → (F j).Within 10000) (hI : GausAt w 0 A n F) :
    Calls Try.prog 34 #[.slice A n c] w fun e w' => e = .returned (.int .i64 (bendTo F n)) ∧ Below w.heap.size w w' := by
  have HI := hide hI
  have HFW := hide hF
  clear hI hF
  go_enter Try.func34, Try.ntmps34
  go_wp2_with fail
  go_loopw [3, 4] (fun v iv wr => ∃ i : Nat, 1 ≤ i ∧ (i + 1 ≤ n ∨ i = 1) ∧ iv = .int .i64 (i : Int) ∧ v = .int .i64 (bendTo F (i + 1)) ∧ Below w.heap.size w wr) (fun _ iv _ => n - (Go.RowKit.intOf iv).toNat)
  case atStart => exact ⟨1, Nat.le_refl _, .inr rfl, rfl, rfl, Below.refl _ _⟩
  case round =>
    obtain ⟨i, hi1, hi, rfl, rfl, hB⟩ := hrel
    obtain ⟨wA, rfl⟩ : ∃ x : World, x = wr := ⟨_, rfl⟩
    have hi800 : i ≤ 800 := by omega
    obtain ⟨k, hk⟩ : ∃ k, k = i + 1 := ⟨_, rfl⟩
    have p1 : IntKind.i64.wrap ((i : Int) + 1) = (k : Int) := by rw [show (i : Int) + 1 = (k : Int) by omega]; exact IntWalk.i64_in _ (by omega)
    by_cases hlt : k < n
    · have hltz : (k : Int) < (n : Int) := by omega
      obtain ⟨j0, hj0⟩ : ∃ j, i = j + 1 := ⟨i - 1, by omega⟩
      have HN := hide (show bendTo F (k + 1) = max5 (bendTo F k) (d2 (F j0).re (F i).re (F k).re) (-d2 (F j0).re (F i).re (F k).re) (d2 (F j0).im (F i).im (F k).im) (-d2 (F j0).im (F i).im (F k).im) by subst hk; subst hj0; rfl)
      have hbt := bendTo_le (F := F) k fun j hj => HFW.out j (by omega)
      obtain ⟨b, o, rfl, -, hb, c0, c1⟩ := (HI.out.below hB) k hlt
      obtain ⟨b', o', e', -, -, d0, d1⟩ := (HI.out.below hB) i (by omega)
      injection e' with e'
      injection e' with e1 e2
      subst e1
      subst e2
      obtain ⟨b', o', e', -, -, f0, f1⟩ := (HI.out.below hB) j0 (by omega)
      injection e' with e'
      injection e' with e1 e2
      subst e1
      subst e2
      obtain ⟨xr, xi⟩ := HFW.out j0 (by omega)
      obtain ⟨yr, yi⟩ := HFW.out i (by omega)
      obtain ⟨zr, zi⟩ := HFW.out k hlt
      have p2 : IntKind.i64.wrap ((i : Int) - 1) = (j0 : Int) := by rw [show (i : Int) - 1 = (j0 : Int) by omega]; exact IntWalk.i64_in _ (by omega)
      have hl0 : (j0 : Int) < (n : Int) := by omega
      have hli : (i : Int) < (n : Int) := by omega
      rw [← hk]
      obtain ⟨B, hB'⟩ : ∃ z, z = bendTo F k := ⟨_, rfl⟩
      rw [← hB'] at hbt HN ⊢
      generalize F j0 = x at *
      generalize F i = y at *
      generalize F k = z at *
      have q1 : IntKind.i64.wrap (2 * y.re) = 2 * y.re := IntWalk.i64_in _ (by omega)
      have q2 : IntKind.i64.wrap (z.re - 2 * y.re) = z.re - 2 * y.re := IntWalk.i64_in _ (by omega)
      have q3 : IntKind.i64.wrap (z.re - 2 * y.re + x.re) = d2 x.re y.re z.re := by unfold d2; exact IntWalk.i64_in _ (by omega)
      have q4 : IntKind.i64.wrap (2 * y.im) = 2 * y.im := IntWalk.i64_in _ (by omega)
      have q5 : IntKind.i64.wrap (z.im - 2 * y.im) = z.im - 2 * y.im := IntWalk.i64_in _ (by omega)
      have q6 : IntKind.i64.wrap (z.im - 2 * y.im + x.im) = d2 x.im y.im z.im := by unfold d2; exact IntWalk.i64_in _ (by omega)
      have HSZ1 := hide (fun W => size_any (d2 x.re y.re z.re) W (by unfold d2; omega))
      have HSZ2 := hide (fun W => size_any (d2 x.im y.im z.im) W (by unfold d2; omega))
      have hS1 : wA.cell? ⟨b, o + k * 2, none⟩ = some (.int .i64 z.re) ∧ wA.cell? ⟨b, o + k * 2 + 1, none⟩ = some (.int .i64 z.im) ∧ wA.cell? ⟨b, o + i * 2, none⟩ = some (.int .i64 y.re) ∧ wA.cell? ⟨b, o + i * 2 + 1, none⟩ = some (.int .i64 y.im) ∧ wA.cell? ⟨b, o + j0 * 2, none⟩ = some (.int .i64 x.re) ∧ wA.cell? ⟨b, o + j0 * 2 + 1, none⟩ = some (.int .i64 x.im) := ⟨c0, c1, d0, d1, f0, f1⟩
      have HB := hide hB
      have HKI := hide hk
      clear hB hb xr xi yr yi zr zi hbt hB' hj0 hk c0 c1 d0 d1 f0 f1
      go_upto_region 5 with fail
      refine wp_region_held_drew (S := fun w' => w'.cell? ⟨b, o + k * 2, none⟩ = some (.int .i64 z.re) ∧ w'.cell? ⟨b, o + k * 2 + 1, none⟩ = some (.int .i64 z.im) ∧ w'.cell? ⟨b, o + i * 2, none⟩ = some (.int .i64 y.re) ∧ w'.cell? ⟨b, o + i * 2 + 1, none⟩ = some (.int .i64 y.im) ∧ w'.cell? ⟨b, o + j0 * 2, none⟩ = some (.int .i64 x.re) ∧ w'.cell? ⟨b, o + j0 * 2 + 1, none⟩ = some (.int .i64 x.im)) (by kernel_rfl) hS1 (fun hHeld => ?_)
      refine wpAnyH_take (i := 0) (oi := ⟨some 12, _, _, _, _, _⟩) (v := ?_) rfl (by kernel_rfl) (by kernel_rfl) (by kernel_rfl) (fun _ _ _ h => h) (Or.inl ⟨by rfl, ?_⟩) (by assumption) ?_
      rotate_left
      · (intro w' hSw; (try dsimp only at hSw); go_simp <;> (with_reducible rfl))
      try simp only [Act.put, List.setIfInBounds_toArray, List.set_cons_zero, List.set_cons_succ]
      refine wpAnyH_take (i := 1) (oi := ⟨some 13, _, _, _, _, _⟩) (v := ?_) rfl (by kernel_rfl) (by kernel_rfl) (by kernel_rfl) (fun _ _ _ h => h) (Or.inl ⟨by rfl, ?_⟩) (by assumption) ?_
      rotate_left
      · (intro w' hSw; (try dsimp only at hSw); go_simp <;> (with_reducible rfl))
      try simp only [Act.put, List.setIfInBounds_toArray, List.set_cons_zero, List.set_cons_succ]
      refine wpAnyH_take (i := 2) (oi := ⟨some 14, _, _, _, _, _⟩) (v := ?_) rfl (by kernel_rfl) (by kernel_rfl) (by kernel_rfl) (fun _ _ _ h => h) (Or.inl ⟨by rfl, ?_⟩) (by assumption) ?_
      rotate_left
      · (intro w' hSw; (try dsimp only at hSw); go_simp <;> (with_reducible rfl))
      try simp only [Act.put, List.setIfInBounds_toArray, List.set_cons_zero, List.set_cons_succ]
      refine wpAnyH_take (i := 3) (oi := ⟨some 15, _, _, _, _, _⟩) (v := ?_) rfl (by kernel_rfl) (by kernel_rfl) (by kernel_rfl) (fun _ _ _ h => h) (Or.inl ⟨by rfl, ?_⟩) (by assumption) ?_
      rotate_left
      · (intro w' hSw; (try dsimp only at hSw); go_simp <;> (with_reducible rfl))
      try simp only [Act.put, List.setIfInBounds_toArray, List.set_cons_zero, List.set_cons_succ]
      refine wpAnyH_take (i := 4) (oi := ⟨some 16, _, _, _, _, _⟩) (v := ?_) rfl (by kernel_rfl) (by kernel_rfl) (by kernel_rfl) (fun _ _ _ h => h) (Or.inl ⟨by rfl, ?_⟩) (by assumption) ?_
      rotate_left
      · (intro w' hSw; (try dsimp only at hSw); go_simp <;> (with_reducible rfl))
      try simp only [Act.put, List.setIfInBounds_toArray, List.set_cons_zero, List.set_cons_succ]
      refine wpAnyH_take (i := 5) (oi := ⟨some 17, _, _, _, _, _⟩) (v := ?_) rfl (by kernel_rfl) (by kernel_rfl) (by kernel_rfl) (fun _ _ _ h => h) (Or.inl ⟨by rfl, ?_⟩) (by assumption) ?_
      rotate_left
      · (intro w' hSw; (try dsimp only at hSw); go_simp <;> (with_reducible rfl))
      try simp only [Act.put, List.setIfInBounds_toArray, List.set_cons_zero, List.set_cons_succ]
      refine wpAnyH_take (i := 6) (oi := ⟨some 18, _, _, _, _, _⟩) (v := ?_) rfl (by kernel_rfl) (by kernel_rfl) (by kernel_rfl) (fun _ _ _ h => h) (Or.inl ⟨by rfl, ?_⟩) (by assumption) ?_
      rotate_left
      · (intro w' hSw; (try dsimp only at hSw); go_simp <;> (with_reducible rfl))
      try simp only [Act.put, List.setIfInBounds_toArray, List.set_cons_zero, List.set_cons_succ]
      refine wpAnyH_take (i := 7) (oi := ⟨some 19, _, _, _, _, _⟩) (v := ?_) rfl (by kernel_rfl) (by kernel_rfl) (by kernel_rfl) (fun _ _ _ h => h) (Or.inl ⟨by rfl, ?_⟩) (by assumption) ?_
      rotate_left
      · (intro w' hSw; (try dsimp only at hSw); go_simp <;> (with_reducible rfl))
      try simp only [Act.put, List.setIfInBounds_toArray, List.set_cons_zero, List.set_cons_succ]
      refine wpAnyH_take (i := 8) (oi := ⟨some 20, _, _, _, _, _⟩) (v := ?_) rfl (by kernel_rfl) (by kernel_rfl) (by kernel_rfl) (fun _ _ _ h => h) (Or.inl ⟨by rfl, ?_⟩) (by assumption) ?_
      rotate_left
      · (intro w' hSw; (try dsimp only at hSw); go_simp <;> (with_reducible rfl))
      try simp only [Act.put, List.setIfInBounds_toArray, List.set_cons_zero, List.set_cons_succ]
      refine wpAnyH_take (i := 9) (oi := ⟨some 21, _, _, _, _, _⟩) (v := ?_) rfl (by kernel_rfl) (by kernel_rfl) (by kernel_rfl) (fun _ _ _ h => h) (Or.inl ⟨by rfl, ?_⟩) (by assumption) ?_
      rotate_left
      · (intro w' hSw; (try dsimp only at hSw); go_simp <;> (with_reducible rfl))
      try simp only [Act.put, List.setIfInBounds_toArray, List.set_cons_zero, List.set_cons_succ]
      refine wpAnyH_take (i := 10) (oi := ⟨some 22, _, _, _, _, _⟩) (v := ?_) rfl (by kernel_rfl) (by kernel_rfl) (by kernel_rfl) (fun _ _ _ h => h) (Or.inl ⟨by rfl, ?_⟩) (by assumption) ?_
      rotate_left
      · (intro w' hSw; (try dsimp only at hSw); go_simp <;> (with_reducible rfl))
      try simp only [Act.put, List.setIfInBounds_toArray, List.set_cons_zero, List.set_cons_succ]
      refine wpAnyH_take (i := 11) (oi := ⟨some 23, _, _, _, _, _⟩) (v := ?_) rfl (by kernel_rfl) (by kernel_rfl) (by kernel_rfl) (fun _ _ _ h => h) (Or.inl ⟨by rfl, ?_⟩) (by assumption) ?_
      rotate_left
      · (intro w' hSw; (try dsimp only at hSw); go_simp <;> (with_reducible rfl))
      try simp only [Act.put, List.setIfInBounds_toArray, List.set_cons_zero, List.set_cons_succ]
      refine wpAnyH_take (i := 12) (oi := ⟨some 24, _, _, _, _, _⟩) (v := ?_) rfl (by kernel_rfl) (by kernel_rfl) (by kernel_rfl) (fun _ _ _ h => h) (Or.inl ⟨by rfl, ?_⟩) (by assumption) ?_
      rotate_left
      · (intro w' hSw; (try dsimp only at hSw); go_simp <;> (with_reducible rfl))
      try simp only [Act.put, List.setIfInBounds_toArray, List.set_cons_zero, List.set_cons_succ]
      refine wpAnyH_take (i := 13) (oi := ⟨some 25, _, _, _, _, _⟩) (v := ?_) rfl (by kernel_rfl) (by kernel_rfl) (by kernel_rfl) (fun _ _ _ h => h) (Or.inl ⟨by rfl, ?_⟩) (by assumption) ?_
      rotate_left
      · (intro w' hSw; (try dsimp only at hSw); go_simp <;> (with_reducible rfl))
      try simp only [Act.put, List.setIfInBounds_toArray, List.set_cons_zero, List.set_cons_succ]
      refine wpAnyH_take (i := 14) (oi := ⟨some 26, _, _, _, _, _⟩) (v := ?_) rfl (by kernel_rfl) (by kernel_rfl) (by kernel_rfl) (fun _ _ _ h => h) (Or.inl ⟨by rfl, ?_⟩) (by assumption) ?_
      rotate_left
      · (intro w' hSw; (try dsimp only at hSw); go_simp <;> (with_reducible rfl))
      try simp only [Act.put, List.setIfInBounds_toArray, List.set_cons_zero, List.set_cons_succ]
      refine wpAnyH_take (i := 15) (oi := ⟨some 27, _, _, _, _, _⟩) (v := ?_) rfl (by kernel_rfl) (by kernel_rfl) (by kernel_rfl) (fun _ _ _ h => h) (Or.inl ⟨by rfl, ?_⟩) (by assumption) ?_
      rotate_left
      · (intro w' hSw; (try dsimp only at hSw); go_simp <;> (with_reducible rfl))
      try simp only [Act.put, List.setIfInBounds_toArray, List.set_cons_zero, List.set_cons_succ]
      refine wpAnyH_take (i := 16) (oi := ⟨some 28, _, _, _, _, _⟩) (v := ?_) rfl (by kernel_rfl) (by kernel_rfl) (by kernel_rfl) (fun _ _ _ h => h) (Or.inl ⟨by rfl, ?_⟩) (by assumption) ?_
      rotate_left
      · (intro w' hSw; (try dsimp only at hSw); go_simp <;> (with_reducible rfl))
      try simp only [Act.put, List.setIfInBounds_toArray, List.set_cons_zero, List.set_cons_succ]
      refine wpAnyH_take (i := 17) (oi := ⟨some 29, _, _, _, _, _⟩) (v := ?_) rfl (by kernel_rfl) (by kernel_rfl) (by kernel_rfl) (fun _ _ _ h => h) (Or.inl ⟨by rfl, ?_⟩) (by assumption) ?_
      rotate_left
      · (intro w' hSw; (try dsimp only at hSw); go_simp <;> (with_reducible rfl))
      try simp only [Act.put, List.setIfInBounds_toArray, List.set_cons_zero, List.set_cons_succ]
      refine wpAnyH_take (i := 18) (oi := ⟨some 30, _, _, _, _, _⟩) (v := ?_) rfl (by kernel_rfl) (by kernel_rfl) (by kernel_rfl) (fun _ _ _ h => h) (Or.inl ⟨by rfl, ?_⟩) (by assumption) ?_
      rotate_left
      · (intro w' hSw; (try dsimp only at hSw); go_simp <;> (with_reducible rfl))
      try simp only [Act.put, List.setIfInBounds_toArray, List.set_cons_zero, List.set_cons_succ]
      refine wpAnyH_take (i := 19) (oi := ⟨some 31, _, _, _, _, _⟩) (v := ?_) rfl (by kernel_rfl) (by kernel_rfl) (by kernel_rfl) (fun _ _ _ h => h) (Or.inl ⟨by rfl, ?_⟩) (by assumption) ?_
      rotate_left
      · (intro w' hSw; (try dsimp only at hSw); go_simp <;> (with_reducible rfl))
      try simp only [Act.put, List.setIfInBounds_toArray, List.set_cons_zero, List.set_cons_succ]
      refine wpAnyH_take (i := 20) (oi := ⟨some 32, _, _, _, _, _⟩) (v := ?_) rfl (by kernel_rfl) (by kernel_rfl) (by kernel_rfl) (fun _ _ _ h => h) (Or.inl ⟨by rfl, ?_⟩) (by assumption) ?_
      rotate_left
      · (intro w' hSw; (try dsimp only at hSw); go_simp <;> (with_reducible rfl))
      try simp only [Act.put, List.setIfInBounds_toArray, List.set_cons_zero, List.set_cons_succ]
      refine wpAnyH_take (i := 22) (oi := ⟨some 34, _, _, _, _, _⟩) (v := ?_) rfl (by kernel_rfl) (by kernel_rfl) (by kernel_rfl) (fun _ _ _ h => h) (Or.inl ⟨by rfl, ?_⟩) (by assumption) ?_
      rotate_left
      · (intro w' hSw; (try dsimp only at hSw); go_simp <;> (with_reducible rfl))
      try simp only [Act.put, List.setIfInBounds_toArray, List.set_cons_zero, List.set_cons_succ]
      refine wpAnyH_take (i := 23) (oi := ⟨some 35, _, _, _, _, _⟩) (v := ?_) rfl (by kernel_rfl) (by kernel_rfl) (by kernel_rfl) (fun _ _ _ h => h) (Or.inl ⟨by rfl, ?_⟩) (by assumption) ?_
      rotate_left
      · (intro w' hSw; (try dsimp only at hSw); go_simp <;> (with_reducible rfl))
      try simp only [Act.put, List.setIfInBounds_toArray, List.set_cons_zero, List.set_cons_succ]
      refine wpAnyH_take (i := 24) (oi := ⟨some 36, _, _, _, _, _⟩) (v := ?_) rfl (by kernel_rfl) (by kernel_rfl) (by kernel_rfl) (fun _ _ _ h => h) (Or.inl ⟨by rfl, ?_⟩) (by assumption) ?_
      rotate_left
      · (intro w' hSw; (try dsimp only at hSw); go_simp <;> (with_reducible rfl))
      try simp only [Act.put, List.setIfInBounds_toArray, List.set_cons_zero, List.set_cons_succ]
      refine wpAnyH_take (i := 25) (oi := ⟨some 37, _, _, _, _, _⟩) (v := ?_) rfl (by kernel_rfl) (by kernel_rfl) (by kernel_rfl) (fun _ _ _ h => h) (Or.inl ⟨by rfl, ?_⟩) (by assumption) ?_
      rotate_left
      · (intro w' hSw; (try dsimp only at hSw); go_simp <;> (with_reducible rfl))
      try simp only [Act.put, List.setIfInBounds_toArray, List.set_cons_zero, List.set_cons_succ]
      refine wpAnyH_take (i := 26) (oi := ⟨some 38, _, _, _, _, _⟩) (v := ?_) rfl (by kernel_rfl) (by kernel_rfl) (by kernel_rfl) (fun _ _ _ h => h) (Or.inl ⟨by rfl, ?_⟩) (by assumption) ?_
      rotate_left
      · (intro w' hSw; (try dsimp only at hSw); go_simp <;> (with_reducible rfl))
      try simp only [Act.put, List.setIfInBounds_toArray, List.set_cons_zero, List.set_cons_succ]
      refine wpAnyH_take (i := 27) (oi := ⟨some 39, _, _, _, _, _⟩) (v := ?_) rfl (by kernel_rfl) (by kernel_rfl) (by kernel_rfl) (fun _ _ _ h => h) (Or.inl ⟨by rfl, ?_⟩) (by assumption) ?_
      rotate_left
      · (intro w' hSw; (try dsimp only at hSw); go_simp <;> (with_reducible rfl))
      try simp only [Act.put, List.setIfInBounds_toArray, List.set_cons_zero, List.set_cons_succ]
      refine wpAnyH_take (i := 28) (oi := ⟨some 40, _, _, _, _, _⟩) (v := ?_) rfl (by kernel_rfl) (by kernel_rfl) (by kernel_rfl) (fun _ _ _ h => h) (Or.inl ⟨by rfl, ?_⟩) (by assumption) ?_
      rotate_left
      · (intro w' hSw; (try dsimp only at hSw); go_simp <;> (with_reducible rfl))
      try simp only [Act.put, List.setIfInBounds_toArray, List.set_cons_zero, List.set_cons_succ]
      refine wpAnyH_take (i := 29) (oi := ⟨some 41, _, _, _, _, _⟩) (v := ?_) rfl (by kernel_rfl) (by kernel_rfl) (by kernel_rfl) (fun _ _ _ h => h) (Or.inl ⟨by rfl, ?_⟩) (by assumption) ?_
      rotate_left
      · (intro w' hSw; (try dsimp only at hSw); go_simp <;> (with_reducible rfl))
      try simp only [Act.put, List.setIfInBounds_toArray, List.set_cons_zero, List.set_cons_succ]
      refine wpAnyH_take (i := 30) (oi := ⟨some 42, _, _, _, _, _⟩) (v := ?_) rfl (by kernel_rfl) (by kernel_rfl) (by kernel_rfl) (fun _ _ _ h => h) (Or.inl ⟨by rfl, ?_⟩) (by assumption) ?_
      rotate_left
      · (intro w' hSw; (try dsimp only at hSw); go_simp <;> (with_reducible rfl))
      try simp only [Act.put, List.setIfInBounds_toArray, List.set_cons_zero, List.set_cons_succ]
      refine wpAnyH_take (i := 31) (oi := ⟨some 43, _, _, _, _, _⟩) (v := ?_) rfl (by kernel_rfl) (by kernel_rfl) (by kernel_rfl) (fun _ _ _ h => h) (Or.inl ⟨by rfl, ?_⟩) (by assumption) ?_
      rotate_left
      · (intro w' hSw; (try dsimp only at hSw); go_simp <;> (with_reducible rfl))
      try simp only [Act.put, List.setIfInBounds_toArray, List.set_cons_zero, List.set_cons_succ]
      refine wpAnyH_take (i := 32) (oi := ⟨some 44, _, _, _, _, _⟩) (v := ?_) rfl (by kernel_rfl) (by kernel_rfl) (by kernel_rfl) (fun _ _ _ h => h) (Or.inl ⟨by rfl, ?_⟩) (by assumption) ?_
      rotate_left
      · (intro w' hSw; (try dsimp only at hSw); go_simp <;> (with_reducible rfl))
      try simp only [Act.put, List.setIfInBounds_toArray, List.set_cons_zero, List.set_cons_succ]
      refine wpAnyH_take (i := 33) (oi := ⟨some 45, _, _, _, _, _⟩) (v := ?_) rfl (by kernel_rfl) (by kernel_rfl) (by kernel_rfl) (fun _ _ _ h => h) (Or.inl ⟨by rfl, ?_⟩) (by assumption) ?_
      rotate_left
      · (intro w' hSw; (try dsimp only at hSw); go_simp <;> (with_reducible rfl))
      try simp only [Act.put, List.setIfInBounds_toArray, List.set_cons_zero, List.set_cons_succ]
      refine wpAnyH_take (i := 34) (oi := ⟨some 46, _, _, _, _, _⟩) (v := ?_) rfl (by kernel_rfl) (by kernel_rfl) (by kernel_rfl) (fun _ _ _ h => h) (Or.inl ⟨by rfl, ?_⟩) (by assumption) ?_
      rotate_left
      · (intro w' hSw; (try dsimp only at hSw); go_simp <;> (with_reducible rfl))
      try simp only [Act.put, List.setIfInBounds_toArray, List.set_cons_zero, List.set_cons_succ]
      refine wpAnyH_take (i := 35) (oi := ⟨some 47, _, _, _, _, _⟩) (v := ?_) rfl (by kernel_rfl) (by kernel_rfl) (by kernel_rfl) (fun _ _ _ h => h) (Or.inl ⟨by rfl, ?_⟩) (by assumption) ?_
      rotate_left
      · (intro w' hSw; (try dsimp only at hSw); go_simp <;> (with_reducible rfl))
      try simp only [Act.put, List.setIfInBounds_toArray, List.set_cons_zero, List.set_cons_succ]
      refine wpAnyH_take (i := 36) (oi := ⟨some 48, _, _, _, _, _⟩) (v := ?_) rfl (by kernel_rfl) (by kernel_rfl) (by kernel_rfl) (fun _ _ _ h => h) (Or.inl ⟨by rfl, ?_⟩) (by assumption) ?_
      rotate_left
      · (intro w' hSw; (try dsimp only at hSw); go_simp <;> (with_reducible rfl))
      try simp only [Act.put, List.setIfInBounds_toArray, List.set_cons_zero, List.set_cons_succ]
      refine wpAnyH_take (i := 37) (oi := ⟨some 49, _, _, _, _, _⟩) (v := ?_) rfl (by kernel_rfl) (by kernel_rfl) (by kernel_rfl) (fun _ _ _ h => h) (Or.inl ⟨by rfl, ?_⟩) (by assumption) ?_
      rotate_left
      · (intro w' hSw; (try dsimp only at hSw); go_simp <;> (with_reducible rfl))
      try simp only [Act.put, List.setIfInBounds_toArray, List.set_cons_zero, List.set_cons_succ]
      refine wpAnyH_take (i := 38) (oi := ⟨some 50, _, _, _, _, _⟩) (v := ?_) rfl (by kernel_rfl) (by kernel_rfl) (by kernel_rfl) (fun _ _ _ h => h) (Or.inl ⟨by rfl, ?_⟩) (by assumption) ?_
      rotate_left
      · (intro w' hSw; (try dsimp only at hSw); go_simp <;> (with_reducible rfl))
      try simp only [Act.put, List.setIfInBounds_toArray, List.set_cons_zero, List.set_cons_succ]
      refine wpAnyH_take (i := 39) (oi := ⟨some 51, _, _, _, _, _⟩) (v := ?_) rfl (by kernel_rfl) (by kernel_rfl) (by kernel_rfl) (fun _ _ _ h => h) (Or.inl ⟨by rfl, ?_⟩) (by assumption) ?_
      rotate_left
      · (intro w' hSw; (try dsimp only at hSw); go_simp <;> (with_reducible rfl))
      try simp only [Act.put, List.setIfInBounds_toArray, List.set_cons_zero, List.set_cons_succ]
      refine wpAnyH_take (i := 40) (oi := ⟨some 52, _, _, _, _, _⟩) (v := ?_) rfl (by kernel_rfl) (by kernel_rfl) (by kernel_rfl) (fun _ _ _ h => h) (Or.inl ⟨by rfl, ?_⟩) (by assumption) ?_
      rotate_left
      · (intro w' hSw; (try dsimp only at hSw); go_simp <;> (with_reducible rfl))
      try simp only [Act.put, List.setIfInBounds_toArray, List.set_cons_zero, List.set_cons_succ]
      refine wpAnyH_take (i := 41) (oi := ⟨some 53, _, _, _, _, _⟩) (v := ?_) rfl (by kernel_rfl) (by kernel_rfl) (by kernel_rfl) (fun _ _ _ h => h) (Or.inl ⟨by rfl, ?_⟩) (by assumption) ?_
      rotate_left
      · (intro w' hSw; (try dsimp only at hSw); go_simp <;> (with_reducible rfl))
      try simp only [Act.put, List.setIfInBounds_toArray, List.set_cons_zero, List.set_cons_succ]
      clear q1 q2 q3 q4 q5 q6
      refine wpAnyH_ready (rs := [21]) (by kernel_rfl) (by simp) ?_
      refine AllReadyH.cons (o := ⟨some 33, _, _, _, _, _⟩) rfl (fun K' hK => ?_) AllReadyH.nil
      go_simp
      go_at_call 35
      refine (HSZ1.out _).mono ?_
      rintro e w5 ⟨rfl, rfl⟩
      go_wp2_with fail
      refine hK.out _ _ hS1 (fun hHeld => ?_)
      clear hK K'
      try simp only [Act.put, List.setIfInBounds_toArray, List.set_cons_zero, List.set_cons_succ]
      refine wpAnyH_ready (rs := [42]) (by kernel_rfl) (by simp) ?_
      refine AllReadyH.cons (o := ⟨some 54, _, _, _, _, _⟩) rfl (fun K' hK => ?_) AllReadyH.nil
      go_simp
      go_at_call 35
      refine (HSZ2.out _).mono ?_
      rintro e w5 ⟨rfl, rfl⟩
      go_wp2_with fail
      refine hK.out _ _ hS1 (fun hHeld => ?_)
      clear hK K'
      try simp only [Act.put, List.setIfInBounds_toArray, List.set_cons_zero, List.set_cons_succ]
      generalize d2 x.re y.re z.re = u1 at *
      generalize d2 x.im y.im z.im = u2 at *
      refine wpAnyH_take (i := 43) (oi := ⟨some 55, _, _, _, _, _⟩) (v := .int .i64 (max (max B (max u1 (-u1))) (max u2 (-u2)))) rfl (by kernel_rfl) (by kernel_rfl) (by kernel_rfl) (fun _ _ _ h => h) (Or.inl ⟨by rfl, fun w' hSw => by go_simp; simp only [gt_iff_lt, maxLt]; omega⟩) (by assumption) ?_
      try simp only [Act.put, List.setIfInBounds_toArray, List.set_cons_zero, List.set_cons_succ]
      rw [max5_sizes, ← HN.out]
      refine wpAnyH_ready (rs := [44]) (by kernel_rfl) (by simp) ?_
      refine AllReadyH.cons (o := ⟨some 3, _, _, _, _, _⟩) rfl (fun K' hK => ?_) AllReadyH.nil
      go_simp
      refine hK.out _ _ hS1 (fun hHeld => ?_)
      clear hK K'
      try simp only [Act.put, List.setIfInBounds_toArray, List.set_cons_zero, List.set_cons_succ]
      refine wpAnyH_done (by kernel_rfl) ?_ _
      go_wp2_with fail
      go_roundw
      case rel => exact ⟨k, by have := HKI.out; omega, .inl (by omega), rfl, rfl, HB.out.drew⟩
      case measure => simp [Go.RowKit.intOf]; have := HKI.out; omega
    · have hltz : ¬ ((k : Int) < (n : Int)) := by omega
      have HV := hide (show bendTo F k = bendTo F n by
        rcases hi with h | h
        · rw [show k = n by omega]
        · subst h
          subst hk
          rcases n with _ | _ | _ | n
          · rfl
          · rfl
          · rfl
          · omega)
      have HB := hide hB
      rw [← hk]
      clear hB hi hk
      go_wp2_with fail
      go_ret
      exact ⟨by rw [← HV.out]; rfl, HB.out⟩
set_option maxHeartbeats 1000000 in
theorem bendErrR_any (A : Option Addr) (n c : Nat) (F : Nat → Gau) (w : World) (hn : n ≤ 100000) (hI : GausAt w 0 A n F) :
    Calls Try.prog 33 #[.slice A n c] w fun e w' => e = .returned (.int .i64 (bendE n F)) ∧ Below w.heap.size w w' := by
  have HX := hide (entriesErrR_any A n c F w (by omega) hI)
  clear hI
  by_cases h : 800 < n
  · have HE := hide (show bendE n F = 8 from if_pos h)
    have hz : (n : Int) > 800 := by omega
    generalize bendE n F = v at *
    clear HX h
    go_enter Try.func33, Try.ntmps33
    go_wp2_with fail
    go_ret
    exact ⟨by rw [HE.out]; rfl, Below.refl _ _⟩
  · have HE := hide (show bendE n F = gausE 10000 F n from if_neg h)
    have hz : ¬ ((n : Int) > 800) := by omega
    generalize gausE 10000 F n = u at *
    generalize bendE n F = v at *
    clear h
    go_enter Try.func33, Try.ntmps33
    go_wp2_with fail
    refine HX.out.mono ?_
    rintro e w2 ⟨rfl, hb⟩
    go_wp2_with fail
    go_ret
    exact ⟨by rw [HE.out]; rfl, hb⟩
theorem interE_none {n : Nat} {F : Nat → Gau} {s : Int} (h : n = 0) : interE n F s = 10 := by
  unfold interE
  rw [show decide (0 < n) = false by simp; omega]
  rfl
theorem interE_many {n : Nat} {F : Nat → Gau} {s : Int} (h : 40 < n) : interE n F s = 8 := by
  unfold interE
  rw [show decide (0 < n) = true by simp; omega, show decide ((n : Int) ≤ 40) = false by simp; omega]
  rfl
theorem interE_few {n : Nat} {F : Nat → Gau} {s : Int} (h0 : 0 < n) (h : n ≤ 40) : interE n F s = if gausE 10000 F n = 0 then unI (withinB s 1 20) 2 else gausE 10000 F n := by
  unfold interE
  rw [show decide (0 < n) = true by simp; omega, show decide ((n : Int) ≤ 40) = true by simp; omega, firstE, if_pos (show unI true 10 = 0 from rfl), firstE, if_pos (show unI true 8 = 0 from rfl), firstE]
  by_cases h1 : gausE 10000 F n = 0
  · rw [if_pos h1, if_pos h1, firstE]
    by_cases h2 : unI (withinB s 1 20) 2 = 0
    · rw [if_pos h2, h2]; rfl
    · rw [if_neg h2]
  · rw [if_neg h1, if_neg h1]
set_option maxHeartbeats 2000000 in
theorem betweenErrR_any (A : Option Addr) (n c : Nat) (F : Nat → Gau) (s : Int) (w : World) (hn : n ≤ 100000) (hI : GausAt w 0 A n F) :
    Calls Try.prog 30 #[.slice A n c, .int .i64 s] w fun e w' => e = .returned (.int .i64 (interE n F s)) ∧ Below w.heap.size w w' := by
  have HX := hide (entriesErrR_any A n c F w (by omega) hI)
  clear hI
  by_cases h0 : n = 0
  · have HE := hide (interE_none (F := F) (s := s) h0)
    have t0 : ((n : Int) == 0) = true := by simp; omega
    generalize interE n F s = v at *
    clear HX h0
    go_enter Try.func30, Try.ntmps30
    go_wp2_with fail
    go_ret
    exact ⟨by rw [HE.out]; rfl, Below.refl _ _⟩
  have t0 : ((n : Int) == 0) = false := by simp; omega
  by_cases h : 40 < n
  · have HE := hide (interE_many (F := F) (s := s) h)
    have hz : (n : Int) > 40 := by omega
    generalize interE n F s = v at *
    clear HX h h0
    go_enter Try.func30, Try.ntmps30
    go_wp2_with fail
    go_ret
    exact ⟨by rw [HE.out]; rfl, Below.refl _ _⟩
  have hz : ¬ (n : Int) > 40 := by omega
  have HE := hide (interE_few (F := F) (s := s) (show 0 < n by omega) (show n ≤ 40 by omega))
  generalize gausE 10000 F n = u at *
  generalize interE n F s = v at *
  clear h h0
  by_cases hu : u = 0
  · have t1 : (u != 0) = false := by simpa using hu
    cases hw : withinB s 1 20
    · have HV := hide (show v = 2 by rw [HE.out, if_pos hu, hw]; rfl)
      clear HE hu
      go_enter Try.func30, Try.ntmps30
      go_wp2_with fail
      refine HX.out.mono ?_
      rintro e w2 ⟨rfl, hb⟩
      go_wp2_with (go_at_call 22; refine (within_any _ _ _ _).mono ?_; rintro e w' ⟨rfl, rfl⟩; rw [hw])
      go_ret
      exact ⟨by rw [HV.out]; rfl, hb⟩
    · have HV := hide (show v = 0 by rw [HE.out, if_pos hu, hw]; rfl)
      clear HE hu
      go_enter Try.func30, Try.ntmps30
      go_wp2_with fail
      refine HX.out.mono ?_
      rintro e w2 ⟨rfl, hb⟩
      go_wp2_with (go_at_call 22; refine (within_any _ _ _ _).mono ?_; rintro e w' ⟨rfl, rfl⟩; rw [hw])
      go_ret
      exact ⟨by rw [HV.out]; rfl, hb⟩
  · have t1 : (u != 0) = true := by simpa using hu
    have HV := hide (show v = u by rw [HE.out, if_neg hu])
    clear HE hu
    go_enter Try.func30, Try.ntmps30
    go_wp2_with fail
    refine HX.out.mono ?_
    rintro e w2 ⟨rfl, hb⟩
    go_wp2_with fail
    go_ret
    exact ⟨by rw [HV.out]; rfl, hb⟩
end Go.Proofs.Ytmcgmlhpbpjmgaa
/- referenceError and EstimatesOf of the code. -/
namespace Go.Proofs.Ytmcgmlhpbpjmgaa
open Go.RowKit
/-- A reference symbol: 1, i, -1 or -i. -/
def isUnit (x : Gau) : Bool := decide ((x.re = 1 ∧ x.im = 0) ∨ (x.re = 0 ∧ x.im = 1) ∨ (x.re = -1 ∧ x.im = 0) ∨ (x.re = 0 ∧ x.im = -1))
def refE (x : Gau) : Int := unI (isUnit x) 3
theorem isUnit_within {x : Gau} (h : isUnit x = true) : x.Within 1 := by
  unfold isUnit at h
  have h := of_decide_eq_true h
  exact ⟨by omega, by omega⟩
set_option maxHeartbeats 2000000 in
theorem referenceError_any (x : Gau) (w : World) :
    Calls Try.prog 66 #[.agg #[.int .i64 x.re, .int .i64 x.im]] w fun e w' => e = .returned (.int .i64 (refE x)) ∧ Below w.heap.size w w' := by
  have HE := hide (show refE x = unI (isUnit x) 3 from rfl)
  have HU := hide (show isUnit x = decide ((x.re = 1 ∧ x.im = 0) ∨ (x.re = 0 ∧ x.im = 1) ∨ (x.re = -1 ∧ x.im = 0) ∨ (x.re = 0 ∧ x.im = -1)) from rfl)
  generalize refE x = v at *
  generalize isUnit x = t at *
  obtain ⟨a, b⟩ := x
  simp only at HU ⊢
  by_cases h1 : a = 1 ∧ b = 0
  · obtain ⟨rfl, rfl⟩ := h1
    have HV := hide (show v = 0 by rw [HE.out, HU.out]; rfl)
    clear HE HU
    go_enter Try.func66, Try.ntmps66
    go_wp2_with fail
    go_ret
    exact ⟨by rw [HV.out]; rfl, by (repeat (first | (with_reducible exact Below.refl _ _) | (with_reducible refine Go.below_drewN ?_ _) | (with_reducible refine Below.drew ?_) | (with_reducible refine Below.alloc ?_ (by first | exact Nat.le_refl _ | (simp; done) | (simp; omega) | omega) _) | (with_reducible refine Below.setCell ?_ (by first | exact Nat.le_refl _ | (simp; done) | (simp; omega) | omega) _)))⟩
  by_cases h2 : a = 0 ∧ b = 1
  · obtain ⟨rfl, rfl⟩ := h2
    have HV := hide (show v = 0 by rw [HE.out, HU.out]; rfl)
    clear HE HU h1
    go_enter Try.func66, Try.ntmps66
    go_wp2_with fail
    go_ret
    exact ⟨by rw [HV.out]; rfl, by (repeat (first | (with_reducible exact Below.refl _ _) | (with_reducible refine Go.below_drewN ?_ _) | (with_reducible refine Below.drew ?_) | (with_reducible refine Below.alloc ?_ (by first | exact Nat.le_refl _ | (simp; done) | (simp; omega) | omega) _) | (with_reducible refine Below.setCell ?_ (by first | exact Nat.le_refl _ | (simp; done) | (simp; omega) | omega) _)))⟩
  by_cases h3 : a = -1 ∧ b = 0
  · obtain ⟨rfl, rfl⟩ := h3
    have HV := hide (show v = 0 by rw [HE.out, HU.out]; rfl)
    clear HE HU h1 h2
    go_enter Try.func66, Try.ntmps66
    go_wp2_with fail
    go_ret
    exact ⟨by rw [HV.out]; rfl, by (repeat (first | (with_reducible exact Below.refl _ _) | (with_reducible refine Go.below_drewN ?_ _) | (with_reducible refine Below.drew ?_) | (with_reducible refine Below.alloc ?_ (by first | exact Nat.le_refl _ | (simp; done) | (simp; omega) | omega) _) | (with_reducible refine Below.setCell ?_ (by first | exact Nat.le_refl _ | (simp; done) | (simp; omega) | omega) _)))⟩
  by_cases h4 : a = 0 ∧ b = -1
  · obtain ⟨rfl, rfl⟩ := h4
    have HV := hide (show v = 0 by rw [HE.out, HU.out]; rfl)
    clear HE HU h1 h2 h3
    go_enter Try.func66, Try.ntmps66
    go_wp2_with fail
    go_ret
    exact ⟨by rw [HV.out]; rfl, by (repeat (first | (with_reducible exact Below.refl _ _) | (with_reducible refine Go.below_drewN ?_ _) | (with_reducible refine Below.drew ?_) | (with_reducible refine Below.alloc ?_ (by first | exact Nat.le_refl _ | (simp; done) | (simp; omega) | omega) _) | (with_reducible refine Below.setCell ?_ (by first | exact Nat.le_refl _ | (simp; done) | (simp; omega) | omega) _)))⟩
  have HV := hide (show v = 3 by rw [HE.out, HU.out, show decide ((a = 1 ∧ b = 0) ∨ (a = 0 ∧ b = 1) ∨ (a = -1 ∧ b = 0) ∨ (a = 0 ∧ b = -1)) = false from decide_eq_false (by omega)]; rfl)
  have HH := hide (show ¬ (a = 1 ∧ b = 0) ∧ ¬ (a = 0 ∧ b = 1) ∧ ¬ (a = -1 ∧ b = 0) ∧ ¬ (a = 0 ∧ b = -1) from ⟨h1, h2, h3, h4⟩)
  clear HE HU h1 h2 h3 h4
  go_enter Try.func66, Try.ntmps66
  go_wp2_with fail
  all_goals first
    | (exfalso; have h := HH.out; omega)
    | (go_ret; exact ⟨by rw [HV.out]; rfl, by (repeat (first | (with_reducible exact Below.refl _ _) | (with_reducible refine Go.below_drewN ?_ _) | (with_reducible refine Below.drew ?_) | (with_reducible refine Below.alloc ?_ (by first | exact Nat.le_refl _ | (simp; done) | (simp; omega) | omega) _) | (with_reducible refine Below.setCell ?_ (by first | exact Nat.le_refl _ | (simp; done) | (simp; omega) | omega) _)))⟩)
set_option maxHeartbeats 1000000 in
theorem itemsError_units (A : Option Addr) (n c : Nat) (F : Nat → Gau) (w : World) (hn : n ≤ 100000) (hI : GausAt w 0 A n F) :
    Calls Try.prog 65 #[.slice A n c, .func (.func 66) #[] #[]] w fun e w' => e = .returned (.int .i64 (badE (fun j => refE (F j)) n)) ∧ Below w.heap.size w w' := by
  have HX := hide (firstWrong_gaus 66 #[] (enters_of Try.func66 (by kernel_rfl) rfl) refE A n c F w hn hI (fun x W hW => referenceError_any x W))
  clear hI
  go_enter Try.func65, Try.ntmps65
  go_wp2_with (go_at_call 92; refine HX.out.mono ?_; rintro e w' ⟨rfl, hb1⟩)
  go_ret
  exact ⟨rfl, hb1⟩
def unitsE (F : Nat → Gau) (n : Nat) : Int := badE (fun j => refE (F j)) n
theorem unitsE_units {F : Nat → Gau} : ∀ {n : Nat}, unitsE F n = 0 → ∀ j, j < n → (F j).Within 1
  | 0, _, j, hj => absurd hj (Nat.not_lt_zero _)
  | n + 1, h, j, hj => by
    unfold unitsE badE at h
    by_cases h1 : badE (fun j => refE (F j)) n = 0
    · rw [if_pos h1] at h
      rcases Nat.lt_or_ge j n with h2 | h2
      · exact unitsE_units h1 j h2
      · obtain rfl : j = n := by omega
        exact isUnit_within (unI_zero (by decide) h)
    · rw [if_neg h1] at h; exact absurd h h1
/-- An estimate: what was received, times the conjugate of the reference symbol. -/
def estG (k x : Gau) : Gau := ⟨x.re * k.re + x.im * k.im, x.im * k.re - x.re * k.im⟩
def estE (n m : Nat) (F G : Nat → Gau) : Int := firstE [unI (decide ((n : Int) ≤ 40)) 8, unI ((m : Int) == (n : Int)) 10, unitsE F n, gausE 10000 G m]
theorem estE_zero {n m : Nat} {F G : Nat → Gau} (h : estE n m F G = 0) : n ≤ 40 ∧ m = n ∧ unitsE F n = 0 ∧ gausE 10000 G n = 0 := by
  unfold estE at h
  obtain ⟨h1, h⟩ := firstE_nil h
  obtain ⟨h2, h⟩ := firstE_nil h
  obtain ⟨h3, h⟩ := firstE_nil h
  obtain ⟨h4, -⟩ := firstE_nil h
  have h1 := unI_zero (by decide) h1
  have h2 := unI_zero (by decide) h2
  simp at h1 h2
  have h2 : m = n := by omega
  subst h2
  exact ⟨by omega, rfl, h3, h4⟩
theorem est_parts {k x : Gau} (hk : k.Within 1) (hx : x.Within 10000) : ((-10000 ≤ x.re * k.re ∧ x.re * k.re ≤ 10000) ∧ (-10000 ≤ x.im * k.im ∧ x.im * k.im ≤ 10000)) ∧ (-10000 ≤ x.im * k.re ∧ x.im * k.re ≤ 10000) ∧ (-10000 ≤ x.re * k.im ∧ x.re * k.im ≤ 10000) := by
  have h1 := mul_within (M := 10000) (N := 1) hx.re hk.re
  have h2 := mul_within (M := 10000) (N := 1) hx.im hk.im
  have h3 := mul_within (M := 10000) (N := 1) hx.im hk.re
  have h4 := mul_within (M := 10000) (N := 1) hx.re hk.im
  omega
set_option maxHeartbeats 8000000 in
set_option maxRecDepth 100000 in
theorem EstimatesOf_any (A B : Option Addr) (n c m d : Nat) (F G : Nat → Gau) (w : World) (hn : n ≤ 100000) (hm : m ≤ 100000) (hI : GausAt w 0 A n F) (hJ : GausAt w 0 B m G) :
    Calls Try.prog 25 #[.slice A n c, .slice B m d] w fun e w' => ∃ v, e = .returned (.tuple #[v, .int .i64 (estE n m F G)]) ∧ GotG w' (estE n m F G) v m (fun j => estG (F j) (G j)) ∧ Below w.heap.size w w' := by
  have HE := hide (show firstE [unI (decide ((n : Int) ≤ 40)) 8, unI ((m : Int) == (n : Int)) 10, unitsE F n, gausE 10000 G m] = estE n m F G from rfl)
  have HX := hide (show Calls Try.prog 65 #[.slice A n c, .func (.func 66) #[] #[]] w fun e w' => e = .returned (.int .i64 (unitsE F n)) ∧ Below w.heap.size w w' from itemsError_units A n c F w hn hI)
  have HY := hide (fun W (h : GausAt W 0 B m G) => entriesError_any B m d G W hm h)
  have HI := hide hI
  have HJ := hide hJ
  have HZ := hide (estE_zero (n := n) (m := m) (F := F) (G := G))
  clear hI hJ
  generalize estE n m F G = V at *
  have HUW := hide (fun (h : unitsE F n = 0) => unitsE_units h)
  have HGW := hide (fun (h : gausE 10000 G n = 0) => gausE_within h)
  obtain ⟨s, hs⟩ : ∃ z, z = unitsE F n := ⟨_, rfl⟩
  obtain ⟨t, ht⟩ : ∃ z, z = gausE 10000 G m := ⟨_, rfl⟩
  rw [← hs, ← ht] at HE
  rw [← hs] at HX
  rw [← ht] at HY
  clear hs ht
  go_enter Try.func25, Try.ntmps25
  go_wp2_with (go_at_call 43; refine (unless_any _ _ _).mono ?_; rintro e w' ⟨rfl, rfl⟩)
  refine HX.out.mono ?_
  rintro e w1 ⟨rfl, hb1⟩
  have HB1 := hide hb1
  clear hb1 HX
  go_wp2_with fail
  refine (HY.out _ (HJ.out.below HB1.out)).mono ?_
  rintro e w2 ⟨rfl, hb2⟩
  have HB2 := hide (HB1.out.trans (hb2.mono HB1.out.size))
  clear hb2 HB1 HY
  go_wp2_with fail
  refine (firstError_laid [unI (decide ((n : Int) ≤ 40)) 8, unI ((m : Int) == (n : Int)) 10, s, t] 4 _ _ rfl (by decide)).mono ?_
  rintro e w3 ⟨rfl, hw3⟩
  rw [HE.out]
  have HB3 := hide (show Below w.heap.size w w3 by rw [← hw3]; exact HB2.out.alloc HB2.out.size _)
  clear hw3 HB2
  by_cases hv : V = 0
  case neg =>
    have tv : (V != 0) = true := by simpa using hv
    have HV := hide hv
    clear HZ HE hv
    go_wp2_with fail
    go_ret2
    exact ⟨_, rfl, .inr ⟨HV.out, rfl⟩, HB3.out⟩
  obtain ⟨hn40, rfl, h3, h4⟩ := HZ.out hv
  have HFW := hide (HUW.out h3)
  have HGW := hide (HGW.out h4)
  subst hv
  clear HZ HE HUW h3 h4
  have hmk := fun W => make_gaus m (by omega) W
  obtain ⟨g, hg⟩ : ∃ g, g = w3.heap.size := ⟨_, rfl⟩
  have hgw : w.heap.size ≤ g := by rw [hg]; exact HB3.out.size
  have hmade := hide (OwnGaus.made w3 w.heap.size g m HB3.out.size hg (by unfold maxLen; omega))
  go_wp2_with fail
  clear hmk
  rw [← hg]
  obtain ⟨w4, hw4⟩ : ∃ y : World, y = w3.alloc (.cells (madeCells #[.int .i64 0, .int .i64 0] (m * 2)) 61) := ⟨_, rfl⟩
  rw [← hw4] at hmade
  have hB4 : Below w.heap.size w w4 := by rw [hw4]; exact HB3.out.alloc HB3.out.size _
  rw [← hw4]
  clear hw4 HB3 hg
  go_loopw [34] (fun i wr => ∃ k : Nat, k ≤ m ∧ i = .int .i64 (k : Int) ∧ OwnGaus wr w.heap.size (.slice (some ⟨g, 0, none⟩) m m) m (fun i => if i < k then estG (F i) (G i) else Gau.zero) ∧ Below w.heap.size w wr) (fun i _ => m - (Go.RowKit.intOf i).toNat)
  case atStart => exact ⟨0, Nat.zero_le _, rfl, hmade.out.congr (fun _ _ => by simp), hB4⟩
  case round =>
    clear hmade hB4
    obtain ⟨k, hk, rfl, ho, hB⟩ := hrel
    obtain ⟨wA, rfl⟩ : ∃ x : World, x = wr := ⟨_, rfl⟩
    have hBs := hB.size
    by_cases hlt : k < m
    · have hltz : (k : Int) < (m : Int) := by omega
      obtain ⟨b, o, rfl, -, hb, c0, c1⟩ := (HI.out.below hB) k hlt
      obtain ⟨b', o', rfl, -, hb', d0, d1⟩ := HJ.out k hlt
      have HEE := hide (fun (Q : Nat → Gau) (z : Gau) (hz : z = estG (F k) (G k)) (hQ : Q = fun i => if i < k then estG (F i) (G i) else Gau.zero) i (_ : i < m) => (show setGau Q k z i = if i < k + 1 then estG (F i) (G i) else Gau.zero from by
        subst hQ
        subst hz
        unfold setGau
        by_cases e1 : i = k
        · subst e1; rw [if_pos rfl, if_pos (by omega)]
        · rw [if_neg e1]
          show (if i < k then estG (F i) (G i) else Gau.zero) = _
          by_cases e2 : i < k
          · rw [if_pos e2, if_pos (by omega)]
          · rw [if_neg e2, if_neg (by omega)]))
      obtain ⟨Q, hQ⟩ : ∃ Q, Q = fun i => if i < k then estG (F i) (G i) else Gau.zero := ⟨_, rfl⟩
      have hp := est_parts (HFW.out k hlt) (HGW.out k hlt)
      obtain ⟨x, hx⟩ : ∃ z, z = F k := ⟨_, rfl⟩
      obtain ⟨y, hy⟩ : ∃ z, z = G k := ⟨_, rfl⟩
      have HQE := hide (HEE.out Q (estG x y) (by rw [hx, hy]) hQ)
      rw [← hQ] at ho
      rw [← hx] at c0 c1 hp
      rw [← hy] at d0 d1 hp
      obtain ⟨zr, hzr⟩ : ∃ z, z = y.re * x.re + y.im * x.im := ⟨_, rfl⟩
      obtain ⟨zi, hzi⟩ : ∃ z, z = y.im * x.re - y.re * x.im := ⟨_, rfl⟩
      have HGG := hide (show estG x y = ⟨zr, zi⟩ by unfold estG; rw [← hzr, ← hzi])
      rw [HGG.out] at HQE
      have q1 : IntKind.i64.wrap (y.re * x.re) = y.re * x.re := IntWalk.i64_in _ (by omega)
      have q2 : IntKind.i64.wrap (y.im * x.im) = y.im * x.im := IntWalk.i64_in _ (by omega)
      have q3 : IntKind.i64.wrap (y.re * x.re + y.im * x.im) = zr := by rw [hzr]; exact IntWalk.i64_in _ (by omega)
      have q4 : IntKind.i64.wrap (y.im * x.re) = y.im * x.re := IntWalk.i64_in _ (by omega)
      have q5 : IntKind.i64.wrap (y.re * x.im) = y.re * x.im := IntWalk.i64_in _ (by omega)
      have q6 : IntKind.i64.wrap (y.im * x.re - y.re * x.im) = zi := by rw [hzi]; exact IntWalk.i64_in _ (by omega)
      clear hQ HEE hx hy hzr hzi HGG hp
      go_upto_region 8 with fail
      obtain ⟨W1, hW1⟩ : ∃ y : World, y = wA.alloc (.cells #[.int .i64 x.re, .int .i64 x.im] 61) := ⟨_, rfl⟩
      rw [← hW1]
      have bx1 : Box W1 wA.heap.size 61 #[.int .i64 x.re, .int .i64 x.im] := by rw [hW1]; exact Box.made rfl
      have ho1 := ho.alloc (.cells #[.int .i64 x.re, .int .i64 x.im] 61)
      have hB1 := hB.alloc hBs (.cells #[.int .i64 x.re, .int .i64 x.im] 61)
      rw [← hW1] at ho1 hB1
      have hgA : g < wA.heap.size := ho.lt.2
      have hS1 : W1.cell? ⟨wA.heap.size, 0, none⟩ = some (.int .i64 x.re) ∧ W1.cell? ⟨wA.heap.size, 1, none⟩ = some (.int .i64 x.im) ∧ W1.cell? ⟨b', o' + k * 2, none⟩ = some (.int .i64 y.re) ∧ W1.cell? ⟨b', o' + k * 2 + 1, none⟩ = some (.int .i64 y.im) := ⟨bx1.at_ 0, bx1.at_ 1, (hB1.cell (p := ⟨b', _, none⟩) hb').trans d0, (hB1.cell (p := ⟨b', _, none⟩) hb').trans d1⟩
      have HPUT := hide (fun (W' : World) (h : W'.cell? ⟨wA.heap.size, 0, none⟩ = some (.int .i64 x.re) ∧ W'.cell? ⟨wA.heap.size, 1, none⟩ = some (.int .i64 x.im) ∧ W'.cell? ⟨b', o' + k * 2, none⟩ = some (.int .i64 y.re) ∧ W'.cell? ⟨b', o' + k * 2 + 1, none⟩ = some (.int .i64 y.im)) =>
        (⟨World.cell_put2 h.1 (by omega) _ _, World.cell_put2 h.2.1 (by omega) _ _, World.cell_put2 h.2.2.1 (by omega) _ _, World.cell_put2 h.2.2.2 (by omega) _ _⟩ : ((W'.setCell ⟨g, k * 2, none⟩ (.int .i64 zr)).setCell ⟨g, k * 2 + 1, none⟩ (.int .i64 zi)).cell? ⟨wA.heap.size, 0, none⟩ = some (.int .i64 x.re) ∧ ((W'.setCell ⟨g, k * 2, none⟩ (.int .i64 zr)).setCell ⟨g, k * 2 + 1, none⟩ (.int .i64 zi)).cell? ⟨wA.heap.size, 1, none⟩ = some (.int .i64 x.im) ∧ ((W'.setCell ⟨g, k * 2, none⟩ (.int .i64 zr)).setCell ⟨g, k * 2 + 1, none⟩ (.int .i64 zi)).cell? ⟨b', o' + k * 2, none⟩ = some (.int .i64 y.re) ∧ ((W'.setCell ⟨g, k * 2, none⟩ (.int .i64 zr)).setCell ⟨g, k * 2 + 1, none⟩ (.int .i64 zi)).cell? ⟨b', o' + k * 2 + 1, none⟩ = some (.int .i64 y.im)))
      clear hW1 ho hB hb hb' c0 c1 d0 d1 bx1
      have HO1 := hide ho1
      have HB1 := hide hB1
      obtain ⟨z0, z1⟩ := ho1.cells hlt
      obtain ⟨f0, f1⟩ := ho1.frozen2 k
      have hlw := ho1.lt.2
      clear ho1 hB1
      refine wp_region_held_drew (S := fun w' => w'.cell? ⟨wA.heap.size, 0, none⟩ = some (.int .i64 x.re) ∧ w'.cell? ⟨wA.heap.size, 1, none⟩ = some (.int .i64 x.im) ∧ w'.cell? ⟨b', o' + k * 2, none⟩ = some (.int .i64 y.re) ∧ w'.cell? ⟨b', o' + k * 2 + 1, none⟩ = some (.int .i64 y.im)) (by kernel_rfl) hS1 (fun hHeld => ?_)
      refine wpAnyH_take (i := 0) (oi := ⟨some 39, _, _, _, _, _⟩) (v := ?_) rfl (by kernel_rfl) (by kernel_rfl) (by kernel_rfl) (fun _ _ _ h => h) (Or.inl ⟨by rfl, ?_⟩) (by assumption) ?_
      rotate_left
      · (intro w' hSw; (try dsimp only at hSw); go_simp <;> (with_reducible rfl))
      try simp only [Act.put, List.setIfInBounds_toArray, List.set_cons_zero, List.set_cons_succ]
      refine wpAnyH_take (i := 1) (oi := ⟨some 40, _, _, _, _, _⟩) (v := ?_) rfl (by kernel_rfl) (by kernel_rfl) (by kernel_rfl) (fun _ _ _ h => h) (Or.inl ⟨by rfl, ?_⟩) (by assumption) ?_
      rotate_left
      · (intro w' hSw; (try dsimp only at hSw); go_simp <;> (with_reducible rfl))
      try simp only [Act.put, List.setIfInBounds_toArray, List.set_cons_zero, List.set_cons_succ]
      refine wpAnyH_take (i := 2) (oi := ⟨some 41, _, _, _, _, _⟩) (v := ?_) rfl (by kernel_rfl) (by kernel_rfl) (by kernel_rfl) (fun _ _ _ h => h) (Or.inl ⟨by rfl, ?_⟩) (by assumption) ?_
      rotate_left
      · (intro w' hSw; (try dsimp only at hSw); go_simp <;> (with_reducible rfl))
      try simp only [Act.put, List.setIfInBounds_toArray, List.set_cons_zero, List.set_cons_succ]
      refine wpAnyH_take (i := 3) (oi := ⟨some 42, _, _, _, _, _⟩) (v := ?_) rfl (by kernel_rfl) (by kernel_rfl) (by kernel_rfl) (fun _ _ _ h => h) (Or.inl ⟨by rfl, ?_⟩) (by assumption) ?_
      rotate_left
      · (intro w' hSw; (try dsimp only at hSw); go_simp <;> (with_reducible rfl))
      try simp only [Act.put, List.setIfInBounds_toArray, List.set_cons_zero, List.set_cons_succ]
      refine wpAnyH_take (i := 4) (oi := ⟨some 43, _, _, _, _, _⟩) (v := ?_) rfl (by kernel_rfl) (by kernel_rfl) (by kernel_rfl) (fun _ _ _ h => h) (Or.inl ⟨by rfl, ?_⟩) (by assumption) ?_
      rotate_left
      · (intro w' hSw; (try dsimp only at hSw); go_simp <;> (with_reducible rfl))
      try simp only [Act.put, List.setIfInBounds_toArray, List.set_cons_zero, List.set_cons_succ]
      refine wpAnyH_take (i := 5) (oi := ⟨some 44, _, _, _, _, _⟩) (v := ?_) rfl (by kernel_rfl) (by kernel_rfl) (by kernel_rfl) (fun _ _ _ h => h) (Or.inl ⟨by rfl, ?_⟩) (by assumption) ?_
      rotate_left
      · (intro w' hSw; (try dsimp only at hSw); go_simp <;> (with_reducible rfl))
      try simp only [Act.put, List.setIfInBounds_toArray, List.set_cons_zero, List.set_cons_succ]
      refine wpAnyH_take (i := 6) (oi := ⟨some 45, _, _, _, _, _⟩) (v := ?_) rfl (by kernel_rfl) (by kernel_rfl) (by kernel_rfl) (fun _ _ _ h => h) (Or.inl ⟨by rfl, ?_⟩) (by assumption) ?_
      rotate_left
      · (intro w' hSw; (try dsimp only at hSw); go_simp <;> (with_reducible rfl))
      try simp only [Act.put, List.setIfInBounds_toArray, List.set_cons_zero, List.set_cons_succ]
      refine wpAnyH_take (i := 7) (oi := ⟨some 46, _, _, _, _, _⟩) (v := ?_) rfl (by kernel_rfl) (by kernel_rfl) (by kernel_rfl) (fun _ _ _ h => h) (Or.inl ⟨by rfl, ?_⟩) (by assumption) ?_
      rotate_left
      · (intro w' hSw; (try dsimp only at hSw); go_simp <;> (with_reducible rfl))
      try simp only [Act.put, List.setIfInBounds_toArray, List.set_cons_zero, List.set_cons_succ]
      refine wpAnyH_take (i := 8) (oi := ⟨some 47, _, _, _, _, _⟩) (v := ?_) rfl (by kernel_rfl) (by kernel_rfl) (by kernel_rfl) (fun _ _ _ h => h) (Or.inl ⟨by rfl, ?_⟩) (by assumption) ?_
      rotate_left
      · (intro w' hSw; (try dsimp only at hSw); go_simp <;> (with_reducible rfl))
      try simp only [Act.put, List.setIfInBounds_toArray, List.set_cons_zero, List.set_cons_succ]
      refine wpAnyH_take (i := 9) (oi := ⟨some 48, _, _, _, _, _⟩) (v := ?_) rfl (by kernel_rfl) (by kernel_rfl) (by kernel_rfl) (fun _ _ _ h => h) (Or.inl ⟨by rfl, ?_⟩) (by assumption) ?_
      rotate_left
      · (intro w' hSw; (try dsimp only at hSw); go_simp <;> (with_reducible rfl))
      try simp only [Act.put, List.setIfInBounds_toArray, List.set_cons_zero, List.set_cons_succ]
      refine wpAnyH_take (i := 10) (oi := ⟨some 49, _, _, _, _, _⟩) (v := ?_) rfl (by kernel_rfl) (by kernel_rfl) (by kernel_rfl) (fun _ _ _ h => h) (Or.inl ⟨by rfl, ?_⟩) (by assumption) ?_
      rotate_left
      · (intro w' hSw; (try dsimp only at hSw); go_simp <;> (with_reducible rfl))
      try simp only [Act.put, List.setIfInBounds_toArray, List.set_cons_zero, List.set_cons_succ]
      refine wpAnyH_take (i := 11) (oi := ⟨some 50, _, _, _, _, _⟩) (v := ?_) rfl (by kernel_rfl) (by kernel_rfl) (by kernel_rfl) (fun _ _ _ h => h) (Or.inl ⟨by rfl, ?_⟩) (by assumption) ?_
      rotate_left
      · (intro w' hSw; (try dsimp only at hSw); go_simp <;> (with_reducible rfl))
      try simp only [Act.put, List.setIfInBounds_toArray, List.set_cons_zero, List.set_cons_succ]
      refine wpAnyH_take (i := 12) (oi := ⟨some 51, _, _, _, _, _⟩) (v := ?_) rfl (by kernel_rfl) (by kernel_rfl) (by kernel_rfl) (fun _ _ _ h => h) (Or.inl ⟨by rfl, ?_⟩) (by assumption) ?_
      rotate_left
      · (intro w' hSw; (try dsimp only at hSw); go_simp <;> (with_reducible rfl))
      try simp only [Act.put, List.setIfInBounds_toArray, List.set_cons_zero, List.set_cons_succ]
      refine wpAnyH_take (i := 13) (oi := ⟨some 52, _, _, _, _, _⟩) (v := ?_) rfl (by kernel_rfl) (by kernel_rfl) (by kernel_rfl) (fun _ _ _ h => h) (Or.inl ⟨by rfl, ?_⟩) (by assumption) ?_
      rotate_left
      · (intro w' hSw; (try dsimp only at hSw); go_simp <;> (with_reducible rfl))
      try simp only [Act.put, List.setIfInBounds_toArray, List.set_cons_zero, List.set_cons_succ]
      refine wpAnyH_take (i := 14) (oi := ⟨some 53, _, _, _, _, _⟩) (v := ?_) rfl (by kernel_rfl) (by kernel_rfl) (by kernel_rfl) (fun _ _ _ h => h) (Or.inl ⟨by rfl, ?_⟩) (by assumption) ?_
      rotate_left
      · (intro w' hSw; (try dsimp only at hSw); go_simp <;> (with_reducible rfl))
      try simp only [Act.put, List.setIfInBounds_toArray, List.set_cons_zero, List.set_cons_succ]
      refine wpAnyH_take (i := 15) (oi := ⟨some 54, _, _, _, _, _⟩) (v := ?_) rfl (by kernel_rfl) (by kernel_rfl) (by kernel_rfl) (fun _ _ _ h => h) (Or.inl ⟨by rfl, ?_⟩) (by assumption) ?_
      rotate_left
      · (intro w' hSw; (try dsimp only at hSw); go_simp <;> (with_reducible rfl))
      try simp only [Act.put, List.setIfInBounds_toArray, List.set_cons_zero, List.set_cons_succ]
      refine wpAnyH_take (i := 16) (oi := ⟨some 55, _, _, _, _, _⟩) (v := ?_) rfl (by kernel_rfl) (by kernel_rfl) (by kernel_rfl) (fun _ _ _ h => h) (Or.inl ⟨by rfl, ?_⟩) (by assumption) ?_
      rotate_left
      · (intro w' hSw; (try dsimp only at hSw); go_simp <;> (with_reducible rfl))
      try simp only [Act.put, List.setIfInBounds_toArray, List.set_cons_zero, List.set_cons_succ]
      refine wpAnyH_take (i := 17) (oi := ⟨some 56, _, _, _, _, _⟩) (v := ?_) rfl (by kernel_rfl) (by kernel_rfl) (by kernel_rfl) (fun _ _ _ h => h) (Or.inl ⟨by rfl, ?_⟩) (by assumption) ?_
      rotate_left
      · (intro w' hSw; (try dsimp only at hSw); go_simp <;> (with_reducible rfl))
      try simp only [Act.put, List.setIfInBounds_toArray, List.set_cons_zero, List.set_cons_succ]
      refine wpAnyH_take (i := 18) (oi := ⟨some 57, _, _, _, _, _⟩) (v := ?_) rfl (by kernel_rfl) (by kernel_rfl) (by kernel_rfl) (fun _ _ _ h => h) (Or.inl ⟨by rfl, ?_⟩) (by assumption) ?_
      rotate_left
      · (intro w' hSw; (try dsimp only at hSw); go_simp <;> (with_reducible rfl))
      try simp only [Act.put, List.setIfInBounds_toArray, List.set_cons_zero, List.set_cons_succ]
      refine wpAnyH_take (i := 19) (oi := ⟨some 58, _, _, _, _, _⟩) (v := ?_) rfl (by kernel_rfl) (by kernel_rfl) (by kernel_rfl) (fun _ _ _ h => h) (Or.inl ⟨by rfl, ?_⟩) (by assumption) ?_
      rotate_left
      · (intro w' hSw; (try dsimp only at hSw); go_simp <;> (with_reducible rfl))
      try simp only [Act.put, List.setIfInBounds_toArray, List.set_cons_zero, List.set_cons_succ]
      refine wpAnyH_take (i := 20) (oi := ⟨some 59, _, _, _, _, _⟩) (v := ?_) rfl (by kernel_rfl) (by kernel_rfl) (by kernel_rfl) (fun _ _ _ h => h) (Or.inl ⟨by rfl, ?_⟩) (by assumption) ?_
      rotate_left
      · (intro w' hSw; (try dsimp only at hSw); go_simp <;> (with_reducible rfl))
      try simp only [Act.put, List.setIfInBounds_toArray, List.set_cons_zero, List.set_cons_succ]
      refine wpAnyH_take (i := 21) (oi := ⟨some 60, _, _, _, _, _⟩) (v := ?_) rfl (by kernel_rfl) (by kernel_rfl) (by kernel_rfl) (fun _ _ _ h => h) (Or.inl ⟨by rfl, ?_⟩) (by assumption) ?_
      rotate_left
      · (intro w' hSw; (try dsimp only at hSw); go_simp <;> (with_reducible rfl))
      try simp only [Act.put, List.setIfInBounds_toArray, List.set_cons_zero, List.set_cons_succ]
      refine wpAnyH_take (i := 22) (oi := ⟨some 61, _, _, _, _, _⟩) (v := ?_) rfl (by kernel_rfl) (by kernel_rfl) (by kernel_rfl) (fun _ _ _ h => h) (Or.inl ⟨by rfl, ?_⟩) (by assumption) ?_
      rotate_left
      · (intro w' hSw; (try dsimp only at hSw); go_simp <;> (with_reducible rfl))
      try simp only [Act.put, List.setIfInBounds_toArray, List.set_cons_zero, List.set_cons_succ]
      refine wpAnyH_take (i := 23) (oi := ⟨some 62, _, _, _, _, _⟩) (v := ?_) rfl (by kernel_rfl) (by kernel_rfl) (by kernel_rfl) (fun _ _ _ h => h) (Or.inl ⟨by rfl, ?_⟩) (by assumption) ?_
      rotate_left
      · (intro w' hSw; (try dsimp only at hSw); go_simp <;> (with_reducible rfl))
      try simp only [Act.put, List.setIfInBounds_toArray, List.set_cons_zero, List.set_cons_succ]
      refine wpAnyH_take (i := 24) (oi := ⟨some 63, _, _, _, _, _⟩) (v := ?_) rfl (by kernel_rfl) (by kernel_rfl) (by kernel_rfl) (fun _ _ _ h => h) (Or.inl ⟨by rfl, ?_⟩) (by assumption) ?_
      rotate_left
      · (intro w' hSw; (try dsimp only at hSw); go_simp <;> (with_reducible rfl))
      try simp only [Act.put, List.setIfInBounds_toArray, List.set_cons_zero, List.set_cons_succ]
      refine wpAnyH_take (i := 25) (oi := ⟨some 64, _, _, _, _, _⟩) (v := ?_) rfl (by kernel_rfl) (by kernel_rfl) (by kernel_rfl) (fun _ _ _ h => h) (Or.inl ⟨by rfl, ?_⟩) (by assumption) ?_
      rotate_left
      · (intro w' hSw; (try dsimp only at hSw); go_simp <;> (with_reducible rfl))
      try simp only [Act.put, List.setIfInBounds_toArray, List.set_cons_zero, List.set_cons_succ]
      refine wpAnyH_take (i := 26) (oi := ⟨some 65, _, _, _, _, _⟩) (v := ?_) rfl (by kernel_rfl) (by kernel_rfl) (by kernel_rfl) (fun _ _ _ h => h) (Or.inl ⟨by rfl, ?_⟩) (by assumption) ?_
      rotate_left
      · (intro w' hSw; (try dsimp only at hSw); go_simp <;> (with_reducible rfl))
      try simp only [Act.put, List.setIfInBounds_toArray, List.set_cons_zero, List.set_cons_succ]
      refine wpAnyH_take (i := 27) (oi := ⟨some 66, _, _, _, _, _⟩) (v := ?_) rfl (by kernel_rfl) (by kernel_rfl) (by kernel_rfl) (fun _ _ _ h => h) (Or.inl ⟨by rfl, ?_⟩) (by assumption) ?_
      rotate_left
      · (intro w' hSw; (try dsimp only at hSw); go_simp <;> (with_reducible rfl))
      try simp only [Act.put, List.setIfInBounds_toArray, List.set_cons_zero, List.set_cons_succ]
      refine wpAnyH_take (i := 28) (oi := ⟨some 67, _, _, _, _, _⟩) (v := ?_) rfl (by kernel_rfl) (by kernel_rfl) (by kernel_rfl) (fun _ _ _ h => h) (Or.inl ⟨by rfl, ?_⟩) (by assumption) ?_
      rotate_left
      · (intro w' hSw; (try dsimp only at hSw); go_simp <;> (with_reducible rfl))
      try simp only [Act.put, List.setIfInBounds_toArray, List.set_cons_zero, List.set_cons_succ]
      refine wpAnyH_take (i := 29) (oi := ⟨some 68, _, _, _, _, _⟩) (v := ?_) rfl (by kernel_rfl) (by kernel_rfl) (by kernel_rfl) (fun _ _ _ h => h) (Or.inl ⟨by rfl, ?_⟩) (by assumption) ?_
      rotate_left
      · (intro w' hSw; (try dsimp only at hSw); go_simp <;> (with_reducible rfl))
      try simp only [Act.put, List.setIfInBounds_toArray, List.set_cons_zero, List.set_cons_succ]
      refine wpAnyH_take (i := 30) (oi := ⟨some 69, _, _, _, _, _⟩) (v := ?_) rfl (by kernel_rfl) (by kernel_rfl) (by kernel_rfl) (fun _ _ _ h => h) (Or.inl ⟨by rfl, ?_⟩) (by assumption) ?_
      rotate_left
      · (intro w' hSw; (try dsimp only at hSw); go_simp <;> (with_reducible rfl))
      try simp only [Act.put, List.setIfInBounds_toArray, List.set_cons_zero, List.set_cons_succ]
      refine wpAnyH_take (i := 31) (oi := ⟨some 70, _, _, _, _, _⟩) (v := ?_) rfl (by kernel_rfl) (by kernel_rfl) (by kernel_rfl) (fun _ _ _ h => h) (Or.inl ⟨by rfl, ?_⟩) (by assumption) ?_
      rotate_left
      · (intro w' hSw; (try dsimp only at hSw); go_simp <;> (with_reducible rfl))
      try simp only [Act.put, List.setIfInBounds_toArray, List.set_cons_zero, List.set_cons_succ]
      refine wpAnyH_take (i := 32) (oi := ⟨some 71, _, _, _, _, _⟩) (v := ?_) rfl (by kernel_rfl) (by kernel_rfl) (by kernel_rfl) (fun _ _ _ h => h) (Or.inl ⟨by rfl, ?_⟩) (by assumption) ?_
      rotate_left
      · (intro w' hSw; (try dsimp only at hSw); go_simp <;> (with_reducible rfl))
      try simp only [Act.put, List.setIfInBounds_toArray, List.set_cons_zero, List.set_cons_succ]
      refine wpAnyH_take (i := 33) (oi := ⟨some 72, _, _, _, _, _⟩) (v := ?_) rfl (by kernel_rfl) (by kernel_rfl) (by kernel_rfl) (fun _ _ _ h => h) (Or.inl ⟨by rfl, ?_⟩) (by assumption) ?_
      rotate_left
      · (intro w' hSw; (try dsimp only at hSw); go_simp <;> (with_reducible rfl))
      try simp only [Act.put, List.setIfInBounds_toArray, List.set_cons_zero, List.set_cons_succ]
      refine wpAnyH_take (i := 34) (oi := ⟨some 73, _, _, _, _, _⟩) (v := ?_) rfl (by kernel_rfl) (by kernel_rfl) (by kernel_rfl) (fun _ _ _ h => h) (Or.inl ⟨by rfl, ?_⟩) (by assumption) ?_
      rotate_left
      · (intro w' hSw; (try dsimp only at hSw); go_simp <;> (with_reducible rfl))
      try simp only [Act.put, List.setIfInBounds_toArray, List.set_cons_zero, List.set_cons_succ]
      refine wpAnyH_take (i := 35) (oi := ⟨some 74, _, _, _, _, _⟩) (v := ?_) rfl (by kernel_rfl) (by kernel_rfl) (by kernel_rfl) (fun _ _ _ h => h) (Or.inl ⟨by rfl, ?_⟩) (by assumption) ?_
      rotate_left
      · (intro w' hSw; (try dsimp only at hSw); go_simp <;> (with_reducible rfl))
      try simp only [Act.put, List.setIfInBounds_toArray, List.set_cons_zero, List.set_cons_succ]
      refine wpAnyH_take (i := 36) (oi := ⟨some 75, _, _, _, _, _⟩) (v := ?_) rfl (by kernel_rfl) (by kernel_rfl) (by kernel_rfl) (fun _ _ _ h => h) (Or.inl ⟨by rfl, ?_⟩) (by assumption) ?_
      rotate_left
      · (intro w' hSw; (try dsimp only at hSw); go_simp <;> (with_reducible rfl))
      try simp only [Act.put, List.setIfInBounds_toArray, List.set_cons_zero, List.set_cons_succ]
      clear q1 q2 q3 q4 q5 q6
      refine wpAnyH_ready (rs := [37]) (by kernel_rfl) (by simp) ?_
      refine AllReadyH.cons (o := ⟨some 76, _, _, _, _, _⟩) rfl (fun K' hK => ?_) AllReadyH.nil
      go_simp
      refine hK.out _ _ hS1 (fun hHeld => ?_)
      clear hK K'
      try simp only [Act.put, List.setIfInBounds_toArray, List.set_cons_zero, List.set_cons_succ]
      refine wpAnyH_ready (rs := [38]) (by kernel_rfl) (by simp) ?_
      refine AllReadyH.cons (o := ⟨none, _, _, _, _, _⟩) rfl (fun K' hK => ?_) AllReadyH.nil
      go_simp
      have HOO := hide (HO1.out.put k ⟨zr, zi⟩)
      have HBB := hide (Below.put2at (o := k * 2) HB1.out HO1.out.lt.1 (.int .i64 zr) (.int .i64 zi))
      refine hK.out _ _ (HPUT.out _ hS1) (fun hHeld => ?_)
      clear hK K'
      try simp only [Act.put, List.setIfInBounds_toArray, List.set_cons_zero, List.set_cons_succ]
      clear z0 z1 f0 f1 hlw hS1 HO1 HB1 HPUT
      refine wpAnyH_done (by kernel_rfl) ?_ _
      go_wp2_with fail
      go_roundw
      case rel => exact ⟨k + 1, by omega, by go_num, HOO.out.congr HQE.out, HBB.out.drew⟩
      case measure => simp [Go.RowKit.intOf]; omega
    · obtain rfl : k = m := by omega
      go_wp2_with fail
      go_ret2
      exact ⟨_, rfl, .inl ⟨rfl, _, _, rfl, (ho.congr (G := fun j => estG (F j) (G j)) fun i hi => by simp only [if_pos hi]).gaus.weak (Nat.zero_le _)⟩, hB⟩
end Go.Proofs.Ytmcgmlhpbpjmgaa
/- The reference: GMul, GConj, power, EstimatesErr, EstimatesOf. -/
namespace Go.Proofs.Ytmcgmlhpbpjmgaa
open Go.RowKit
set_option maxHeartbeats 4000000 in
set_option maxRecDepth 100000 in
theorem gmul_any (x y : Gau) (M N : Int) (w : World) (hx : x.Within M) (hy : y.Within N) (hMN : M * N ≤ 1000000000000) :
    Calls Try.prog 69 #[.agg #[.int .i64 x.re, .int .i64 x.im], .agg #[.int .i64 y.re, .int .i64 y.im]] w fun e w' => e = .returned (.agg #[.int .i64 (x.re * y.re - x.im * y.im), .int .i64 (x.re * y.im + x.im * y.re)]) ∧ Below w.heap.size w w' := by
  have h1 := mul_within hx.re hy.re
  have h2 := mul_within hx.im hy.im
  have h3 := mul_within hx.re hy.im
  have h4 := mul_within hx.im hy.re
  have q1 : IntKind.i64.wrap (x.re * y.re) = x.re * y.re := IntWalk.i64_in _ (by omega)
  have q2 : IntKind.i64.wrap (x.im * y.im) = x.im * y.im := IntWalk.i64_in _ (by omega)
  have q3 : IntKind.i64.wrap (x.re * y.re - x.im * y.im) = x.re * y.re - x.im * y.im := IntWalk.i64_in _ (by omega)
  have q4 : IntKind.i64.wrap (x.re * y.im) = x.re * y.im := IntWalk.i64_in _ (by omega)
  have q5 : IntKind.i64.wrap (x.im * y.re) = x.im * y.re := IntWalk.i64_in _ (by omega)
  have q6 : IntKind.i64.wrap (x.re * y.im + x.im * y.re) = x.re * y.im + x.im * y.re := IntWalk.i64_in _ (by omega)
  clear h1 h2 h3 h4 hx hy hMN
  obtain ⟨P, hP⟩ : ∃ z, z = x.re * y.re - x.im * y.im := ⟨_, rfl⟩
  obtain ⟨Q, hQ⟩ : ∃ z, z = x.re * y.im + x.im * y.re := ⟨_, rfl⟩
  rw [← hP, ← hQ]
  replace q3 := q3.trans hP.symm
  replace q6 := q6.trans hQ.symm
  clear hP hQ
  go_enter Try.func69, Try.ntmps69
  go_wp2_with fail
  have hb : Box (((w.alloc (.cells #[.int .i64 x.re, .int .i64 x.im] 61)).alloc (.cells #[.int .i64 y.re, .int .i64 y.im] 61)).alloc (.cells #[.int .i64 P, .int .i64 Q] 61)) (w.heap.size + 1 + 1) 61 #[.int .i64 P, .int .i64 Q] := Box.made (by simp)
  obtain ⟨y0, y1, -⟩ := hb.cells2
  refine bodyPost_ret (v := .agg #[.int .i64 P, .int .i64 Q]) ?_ rfl ⟨rfl, by (repeat (first | (with_reducible exact Below.refl _ _) | (with_reducible refine Go.below_drewN ?_ _) | (with_reducible refine Below.drew ?_) | (with_reducible refine Below.alloc ?_ (by first | exact Nat.le_refl _ | (simp; done) | (simp; omega) | omega) _) | (with_reducible refine Below.setCell ?_ (by first | exact Nat.le_refl _ | (simp; done) | (simp; omega) | omega) _)))⟩
  simp [results, Try.results69, go_sem, y0, y1]
set_option maxHeartbeats 2000000 in
theorem gconj_any (x : Gau) (w : World) (hx : x.Within 1000000) :
    Calls Try.prog 70 #[.agg #[.int .i64 x.re, .int .i64 x.im]] w fun e w' => e = .returned (.agg #[.int .i64 x.re, .int .i64 (-x.im)]) ∧ Below w.heap.size w w' := by
  have q1 : IntKind.i64.wrap (-x.im) = -x.im := IntWalk.i64_in _ (by have := hx.im; omega)
  clear hx
  go_enter Try.func70, Try.ntmps70
  go_wp2_with fail
  have hb : Box ((w.alloc (.cells #[.int .i64 x.re, .int .i64 x.im] 61)).alloc (.cells #[.int .i64 x.re, .int .i64 (-x.im)] 61)) (w.heap.size + 1) 61 #[.int .i64 x.re, .int .i64 (-x.im)] := Box.made (by simp)
  obtain ⟨y0, y1, -⟩ := hb.cells2
  refine bodyPost_ret (v := .agg #[.int .i64 x.re, .int .i64 (-x.im)]) ?_ rfl ⟨rfl, by (repeat (first | (with_reducible exact Below.refl _ _) | (with_reducible refine Go.below_drewN ?_ _) | (with_reducible refine Below.drew ?_) | (with_reducible refine Below.alloc ?_ (by first | exact Nat.le_refl _ | (simp; done) | (simp; omega) | omega) _) | (with_reducible refine Below.setCell ?_ (by first | exact Nat.le_refl _ | (simp; done) | (simp; omega) | omega) _)))⟩
  simp [results, Try.results70, go_sem, y0, y1]
/-- The powers of i. -/
def powG : Nat → Gau
  | 0 => ⟨1, 0⟩
  | n + 1 => ⟨-(powG n).im, (powG n).re⟩
theorem powG_within : ∀ n, (powG n).Within 1
  | 0 => ⟨by decide, by decide⟩
  | n + 1 => by
    have h := powG_within n
    exact ⟨by have := h.im; show -1 ≤ -(powG n).im ∧ -(powG n).im ≤ 1; omega, h.re⟩
set_option maxHeartbeats 4000000 in
set_option maxRecDepth 100000 in
theorem powerG_any (k : Nat) (w : World) (hk : k < 4) :
    Calls Try.prog 68 #[.int .i64 (k : Int)] w fun e w' => e = .returned (.agg #[.int .i64 (powG k).re, .int .i64 (powG k).im]) ∧ Below w.heap.size w w' := by
  have HM := hide (fun W => modN_any (k : Int) 4 W (by decide) (by decide))
  rw [show (k : Int) % 4 = (k : Int) by omega] at HM
  have HG := hide (fun j W => gmul_any (powG j) ⟨0, 1⟩ 1 1 W (powG_within j) ⟨by decide, by decide⟩ (by decide))
  go_enter Try.func68, Try.ntmps68
  go_wp2_with fail
  go_loopw [4] (fun iv wr => ∃ j : Nat, j ≤ k ∧ iv = .int .i64 (j : Int) ∧ Box wr w.heap.size 61 #[.int .i64 0, .int .i64 0] ∧ Box wr (w.heap.size + 1) 61 #[.int .i64 (powG j).re, .int .i64 (powG j).im] ∧ Below w.heap.size w wr) (fun iv _ => k - (Go.RowKit.intOf iv).toNat)
  case atStart => exact ⟨0, Nat.zero_le _, rfl, (Box.made rfl).alloc _, Box.made (by simp), by (repeat (first | (with_reducible exact Below.refl _ _) | (with_reducible refine Go.below_drewN ?_ _) | (with_reducible refine Below.drew ?_) | (with_reducible refine Below.alloc ?_ (by first | exact Nat.le_refl _ | (simp; done) | (simp; omega) | omega) _) | (with_reducible refine Below.setCell ?_ (by first | exact Nat.le_refl _ | (simp; done) | (simp; omega) | omega) _)))⟩
  case round =>
    obtain ⟨j, hj, rfl, b2, b3, hB⟩ := hrel
    obtain ⟨wA, rfl⟩ : ∃ x : World, x = wr := ⟨_, rfl⟩
    have HGj := hide (fun W => HG.out j W)
    have HN := hide (show powG (j + 1) = ⟨-(powG j).im, (powG j).re⟩ from rfl)
    obtain ⟨x, hx⟩ : ∃ x, x = powG j := ⟨_, rfl⟩
    rw [← hx] at b3 HGj HN
    have HXX := hide hx
    clear hx
    by_cases hlt : j < k
    · have hltz : (j : Int) < (k : Int) := by omega
      obtain ⟨z0, z1, f0, f1, hl⟩ := b3.cells2
      have hBs := hB.size
      go_wp2_with (go_at_call 87; refine (HM.out _).mono ?_; rintro e w' ⟨rfl, rfl⟩)
      refine (HGj.out _).mono ?_
      rintro e w5 ⟨rfl, hb5⟩
      simp only [Int.mul_zero, Int.mul_one, Int.zero_sub, Int.add_zero]
      replace b2 := b2.below hb5
      replace b3 := b3.below hb5
      have hB5 := hB.trans (hb5.mono hBs)
      clear hb5 hB z0 z1 f0 f1 hl
      obtain ⟨z0, z1, f0, f1, hl⟩ := b3.cells2
      have HB2 := hide ((b2.other (p := ⟨w.heap.size + 1, 0, none⟩) (by simp) (.int .i64 (-x.im))).other (p := ⟨w.heap.size + 1, 1, none⟩) (by simp) (.int .i64 x.re))
      have HB3 := hide (show Box _ _ _ _ from by have := (b3.set_ 0 (.int .i64 (-x.im))).set_ 1 (.int .i64 x.re); simpa using this)
      have HBL := hide ((hB5.setCell (p := ⟨w.heap.size + 1, 0, none⟩) (Nat.le_succ _) (.int .i64 (-x.im))).setCell (p := ⟨w.heap.size + 1, 1, none⟩) (Nat.le_succ _) (.int .i64 x.re))
      clear b2 b3 hB5
      go_wp2_with fail
      go_roundw
      case rel => exact ⟨j + 1, by omega, by go_num, HB2.out, by rw [HN.out]; exact HB3.out, HBL.out⟩
      case measure => simp [Go.RowKit.intOf]; omega
    · obtain rfl : j = k := by omega
      have hltz : ¬ ((j : Int) < (j : Int)) := by omega
      obtain ⟨z0, z1, f0, f1, hl⟩ := b3.cells2
      obtain ⟨y0, y1, g0, g1, hl'⟩ := b2.cells2
      have HB2 := hide (show Box _ _ _ _ from by have := (b2.set_ 0 (.int .i64 x.re)).set_ 1 (.int .i64 x.im); simpa using this)
      have HBL := hide ((hB.setCell (p := ⟨w.heap.size, 0, none⟩) (Nat.le_refl _) (.int .i64 x.re)).setCell (p := ⟨w.heap.size, 1, none⟩) (Nat.le_refl _) (.int .i64 x.im))
      clear b2 b3 hB
      go_wp2_with (go_at_call 87; refine (HM.out _).mono ?_; rintro e w' ⟨rfl, rfl⟩)
      refine bodyPost_ret (v := .agg #[.int .i64 x.re, .int .i64 x.im]) ?_ rfl ⟨by rw [HXX.out], HBL.out⟩
      obtain ⟨y0, y1, -⟩ := HB2.out.cells2
      simp [results, Try.results68, go_sem, y0, y1]
/-- Whether a number is one of the first k powers of i. -/
def unitTo (x : Gau) : Nat → Bool
  | 0 => false
  | k + 1 => unitTo x k || decide (x.re = (powG k).re ∧ x.im = (powG k).im)
theorem unitTo_four (x : Gau) : unitTo x 4 = isUnit x := by
  unfold unitTo unitTo unitTo unitTo unitTo isUnit powG powG powG powG
  simp only [Bool.false_or]
  rw [Bool.eq_iff_iff]
  simp only [Bool.or_eq_true, decide_eq_true_eq]
  omega
theorem estE_many {n m : Nat} {F G : Nat → Gau} (h : 40 < n) : estE n m F G = 8 := by
  unfold estE
  rw [show decide ((n : Int) ≤ 40) = false by simp; omega]
  rfl
theorem estE_far {n m : Nat} {F G : Nat → Gau} (h : n ≤ 40) (hm : m ≠ n) : estE n m F G = 10 := by
  unfold estE
  rw [show decide ((n : Int) ≤ 40) = true by simp; omega, show ((m : Int) == (n : Int)) = false by simp; omega]
  rfl
theorem estE_few {n : Nat} {F G : Nat → Gau} (h : n ≤ 40) : estE n n F G = if unitsE F n = 0 then gausE 10000 G n else unitsE F n := by
  unfold estE
  rw [show decide ((n : Int) ≤ 40) = true by simp; omega, show ((n : Int) == (n : Int)) = true by simp, firstE, if_pos (show unI true 8 = 0 from rfl), firstE, if_pos (show unI true 10 = 0 from rfl), firstE]
  by_cases h1 : unitsE F n = 0
  · rw [if_pos h1, if_pos h1, firstE]
    by_cases h2 : gausE 10000 G n = 0
    · rw [if_pos h2, h2]; rfl
    · rw [if_neg h2]
  · rw [if_neg h1, if_neg h1]
set_option maxHeartbeats 8000000 in
set_option maxRecDepth 100000 in
theorem estimatesErrR_any (A B : Option Addr) (n c m d : Nat) (F G : Nat → Gau) (w : World) (hn : n ≤ 100000) (hm : m ≤ 100000) (hI : GausAt w 0 A n F) (hJ : GausAt w 0 B m G) :
    Calls Try.prog 28 #[.slice A n c, .slice B m d] w fun e w' => e = .returned (.int .i64 (estE n m F G)) ∧ Below w.heap.size w w' := by
  have HI := hide hI
  have HX := hide (fun W (h : GausAt W 0 B m G) => entriesErrR_any B m d G W (by omega) h)
  have HJ := hide hJ
  clear hI hJ
  by_cases h : 40 < n
  · have HE := hide (estE_many (m := m) (F := F) (G := G) h)
    have hz : (n : Int) > 40 := by omega
    generalize estE n m F G = v at *
    clear HX h
    go_enter Try.func28, Try.ntmps28
    go_wp2_with fail
    go_ret
    exact ⟨by rw [HE.out]; rfl, Below.refl _ _⟩
  have hz : ¬ (n : Int) > 40 := by omega
  by_cases h2 : m = n
  case neg =>
    have HE := hide (estE_far (F := F) (G := G) (show n ≤ 40 by omega) h2)
    have t0 : ((m : Int) != (n : Int)) = true := by simp; omega
    generalize estE n m F G = v at *
    clear HX h h2
    go_enter Try.func28, Try.ntmps28
    go_wp2_with fail
    go_ret
    exact ⟨by rw [HE.out]; rfl, Below.refl _ _⟩
  subst h2
  have t0 : ((m : Int) != (m : Int)) = false := by simp
  have HE := hide (estE_few (F := F) (G := G) (show m ≤ 40 by omega))
  generalize estE m m F G = v at *
  obtain ⟨t, ht⟩ : ∃ z, z = gausE 10000 G m := ⟨_, rfl⟩
  rw [← ht] at HX HE
  have HP := hide (fun k (hk : k < 4) W => powerG_any k W hk)
  clear h ht
  go_enter Try.func28, Try.ntmps28
  go_wp2_with fail
  go_loopw [5] (fun iv wr => ∃ i : Nat, i ≤ m ∧ iv = .int .i64 (i : Int) ∧ Hid (badE (fun j => refE (F j)) i = 0) ∧ Below w.heap.size w wr) (fun iv _ => m - (Go.RowKit.intOf iv).toNat)
  case atStart => exact ⟨0, Nat.zero_le _, rfl, hide rfl, Below.refl _ _⟩
  case round =>
    obtain ⟨i, hi, rfl, HZ, hB⟩ := hrel
    obtain ⟨wA, rfl⟩ : ∃ x : World, x = wr := ⟨_, rfl⟩
    by_cases hlt : i < m
    · have hltz : (i : Int) < (m : Int) := by omega
      have HIi := hide (HI.out i hlt)
      have HG := hide (badE_succ HZ.out)
      have HQ := hide (fun h => badE_at (g := fun j => refE (F j)) HZ.out h m hlt)
      have HV := hide (show refE (F i) = unI (unitTo (F i) 4) 3 by rw [unitTo_four]; rfl)
      obtain ⟨x, hx⟩ : ∃ x, x = F i := ⟨_, rfl⟩
      rw [← hx] at HIi HV
      have HXF := hide hx
      have HUM := hide (show unitsE F m = badE (fun j => refE (F j)) m from rfl)
      clear hx
      go_wp2_with fail
      go_loopw [6, 7] (fun uv kv wr => ∃ k : Nat, k ≤ 4 ∧ kv = .int .i64 (k : Int) ∧ uv = .bool (unitTo x k) ∧ Below w.heap.size w wr) (fun _ kv _ => 4 - (Go.RowKit.intOf kv).toNat)
      case atStart => exact ⟨0, Nat.zero_le _, rfl, rfl, hB⟩
      case round =>
        clear hB
        obtain ⟨k, hk, rfl, rfl, hB⟩ := hrel
        obtain ⟨wB, rfl⟩ : ∃ x : World, x = wr := ⟨_, rfl⟩
        have hBs := hB.size
        by_cases hk4 : k < 4
        · have hkz : (k : Int) < 4 := by omega
          have HN := hide (show unitTo x (k + 1) = (unitTo x k || decide (x.re = (powG k).re ∧ x.im = (powG k).im)) from rfl)
          cases hu : unitTo x k
          · rw [hu] at HN
            have HPk := hide (fun W => HP.out k hk4 W)
            obtain ⟨b, o, rfl, -, hb, c0, c1⟩ := HIi.out
            have HCI := hide (fun W' (h : Below w.heap.size w W') => (⟨(h.cell (p := ⟨b, o + i * 2, none⟩) hb).trans c0, (h.cell (p := ⟨b, o + i * 2 + 1, none⟩) hb).trans c1⟩ : W'.cell? ⟨b, o + i * 2, none⟩ = some (.int .i64 x.re) ∧ W'.cell? ⟨b, o + i * 2 + 1, none⟩ = some (.int .i64 x.im)))
            have hS1 := HCI.out _ hB
            have HB := hide hB
            generalize powG k = y at *
            clear hB c0 c1 hb hu
            go_upto_region 12 with fail
            refine wp_region_held_drew (S := fun w' => w'.cell? ⟨b, o + i * 2, none⟩ = some (.int .i64 x.re) ∧ w'.cell? ⟨b, o + i * 2 + 1, none⟩ = some (.int .i64 x.im)) (by kernel_rfl) hS1 (fun hHeld => ?_)
            clear hS1
            refine wpAnyH_take (i := 0) (oi := ⟨some 26, _, _, _, _, _⟩) (v := ?_) rfl (by kernel_rfl) (by kernel_rfl) (by kernel_rfl) (fun _ _ _ h => h) (Or.inl ⟨by rfl, ?_⟩) (by assumption) ?_
            rotate_left
            · (intro w' hSw; (try dsimp only at hSw); go_simp <;> (with_reducible rfl))
            try simp only [Act.put, List.setIfInBounds_toArray, List.set_cons_zero, List.set_cons_succ]
            refine wpAnyH_take (i := 1) (oi := ⟨some 27, _, _, _, _, _⟩) (v := ?_) rfl (by kernel_rfl) (by kernel_rfl) (by kernel_rfl) (fun _ _ _ h => h) (Or.inl ⟨by rfl, ?_⟩) (by assumption) ?_
            rotate_left
            · (intro w' hSw; (try dsimp only at hSw); go_simp <;> (with_reducible rfl))
            try simp only [Act.put, List.setIfInBounds_toArray, List.set_cons_zero, List.set_cons_succ]
            refine wpAnyH_take (i := 2) (oi := ⟨some 28, _, _, _, _, _⟩) (v := ?_) rfl (by kernel_rfl) (by kernel_rfl) (by kernel_rfl) (fun _ _ _ h => h) (Or.inl ⟨by rfl, ?_⟩) (by assumption) ?_
            rotate_left
            · (intro w' hSw; (try dsimp only at hSw); go_simp <;> (with_reducible rfl))
            try simp only [Act.put, List.setIfInBounds_toArray, List.set_cons_zero, List.set_cons_succ]
            refine wpAnyH_take (i := 3) (oi := ⟨some 29, _, _, _, _, _⟩) (v := ?_) rfl (by kernel_rfl) (by kernel_rfl) (by kernel_rfl) (fun _ _ _ h => h) (Or.inl ⟨by rfl, ?_⟩) (by assumption) ?_
            rotate_left
            · (intro w' hSw; (try dsimp only at hSw); go_simp <;> (with_reducible rfl))
            try simp only [Act.put, List.setIfInBounds_toArray, List.set_cons_zero, List.set_cons_succ]
            refine wpAnyH_take (i := 4) (oi := ⟨some 30, _, _, _, _, _⟩) (v := ?_) rfl (by kernel_rfl) (by kernel_rfl) (by kernel_rfl) (fun _ _ _ h => h) (Or.inl ⟨by rfl, ?_⟩) (by assumption) ?_
            rotate_left
            · (intro w' hSw; (try dsimp only at hSw); go_simp <;> (with_reducible rfl))
            try simp only [Act.put, List.setIfInBounds_toArray, List.set_cons_zero, List.set_cons_succ]
            refine wpAnyH_take (i := 5) (oi := ⟨some 31, _, _, _, _, _⟩) (v := ?_) rfl (by kernel_rfl) (by kernel_rfl) (by kernel_rfl) (fun _ _ _ h => h) (Or.inl ⟨by rfl, ?_⟩) (by assumption) ?_
            rotate_left
            · (intro w' hSw; (try dsimp only at hSw); go_simp <;> (with_reducible rfl))
            try simp only [Act.put, List.setIfInBounds_toArray, List.set_cons_zero, List.set_cons_succ]
            refine wpAnyH_take (i := 6) (oi := ⟨some 32, _, _, _, _, _⟩) (v := ?_) rfl (by kernel_rfl) (by kernel_rfl) (by kernel_rfl) (fun _ _ _ h => h) (Or.inl ⟨by rfl, ?_⟩) (by assumption) ?_
            rotate_left
            · (intro w' hSw; (try dsimp only at hSw); go_simp <;> (with_reducible rfl))
            try simp only [Act.put, List.setIfInBounds_toArray, List.set_cons_zero, List.set_cons_succ]
            refine wpAnyH_ready (rs := [7]) (by kernel_rfl) (by simp) ?_
            refine AllReadyH.cons (o := ⟨some 33, _, _, _, _, _⟩) rfl (fun K' hK => ?_) AllReadyH.nil
            go_simp
            go_at_call 68
            refine (HPk.out _).mono ?_
            rintro e w5 ⟨rfl, hb5⟩
            have hc5 : Below wB.heap.size wB w5 := by first | exact hb5 | exact below_of_drew hb5 | exact below_of_drew (below_of_drew hb5)
            have hB5 := HB.out.trans (hc5.mono hBs)
            have hS5 := HCI.out _ hB5
            clear hb5 hc5
            go_wp2_with fail
            refine hK.out _ _ hS5 (fun hHeld => ?_)
            clear hK K'
            try simp only [Act.put, List.setIfInBounds_toArray, List.set_cons_zero, List.set_cons_succ]
            refine wpAnyH_take (i := 8) (oi := ⟨some 34, _, _, _, _, _⟩) (v := .bool (decide (x.re = y.re ∧ x.im = y.im))) rfl (by kernel_rfl) (by kernel_rfl) (by kernel_rfl) (fun _ _ _ h => h) (Or.inl ⟨by rfl, fun w' hSw => by go_simp; by_cases h1 : x.re = y.re <;> by_cases h2 : x.im = y.im <;> simp [h1, h2]⟩) (by assumption) ?_
            try simp only [Act.put, List.setIfInBounds_toArray, List.set_cons_zero, List.set_cons_succ]
            refine wpAnyH_take (i := 9) (oi := ⟨some 35, _, _, _, _, _⟩) (v := ?_) rfl (by kernel_rfl) (by kernel_rfl) (by kernel_rfl) (fun _ _ _ h => h) (Or.inl ⟨by rfl, ?_⟩) (by assumption) ?_
            rotate_left
            · (intro w' hSw; (try dsimp only at hSw); go_simp <;> (with_reducible rfl))
            try simp only [Act.put, List.setIfInBounds_toArray, List.set_cons_zero, List.set_cons_succ]
            refine wpAnyH_ready (rs := [10]) (by kernel_rfl) (by simp) ?_
            refine AllReadyH.cons (o := ⟨some 6, _, _, _, _, _⟩) rfl (fun K' hK => ?_) AllReadyH.nil
            go_simp
            refine hK.out _ _ hS5 (fun hHeld => ?_)
            clear hK K'
            try simp only [Act.put, List.setIfInBounds_toArray, List.set_cons_zero, List.set_cons_succ]
            refine wpAnyH_done (by kernel_rfl) ?_ _
            go_wp2_with fail
            go_roundw
            case rel => exact ⟨k + 1, by omega, by go_num, by rw [HN.out, Bool.false_or, Bool.decide_and], hB5⟩
            case measure => simp [Go.RowKit.intOf]; omega
          · rw [hu] at HN
            have HB := hide hB
            clear hB hu
            go_upto_region 12 with fail
            refine wp_region_held_drew (S := fun _ => True) (by kernel_rfl) trivial (fun hHeld => ?_)
            refine wpAnyH_take (i := 0) (oi := ⟨some 26, _, _, _, _, _⟩) (v := ?_) rfl (by kernel_rfl) (by kernel_rfl) (by kernel_rfl) (fun _ _ _ h => h) (Or.inl ⟨by rfl, ?_⟩) (by assumption) ?_
            rotate_left
            · (intro w' hSw; (try dsimp only at hSw); go_simp <;> (with_reducible rfl))
            try simp only [Act.put, List.setIfInBounds_toArray, List.set_cons_zero, List.set_cons_succ]
            refine wpAnyH_take (i := 1) (oi := ⟨some 27, _, _, _, _, _⟩) (v := ?_) rfl (by kernel_rfl) (by kernel_rfl) (by kernel_rfl) (fun _ _ _ h => h) (Or.inl ⟨by rfl, ?_⟩) (by assumption) ?_
            rotate_left
            · (intro w' hSw; (try dsimp only at hSw); go_simp <;> (with_reducible rfl))
            try simp only [Act.put, List.setIfInBounds_toArray, List.set_cons_zero, List.set_cons_succ]
            refine wpAnyH_take (i := 2) (oi := ⟨some 28, _, _, _, _, _⟩) (v := undef) rfl (by kernel_rfl) (by kernel_rfl) (by kernel_rfl) (fun _ _ _ h => h) (Or.inr ⟨by rfl, by rfl⟩) (by assumption) ?_
            try simp only [Act.put, List.setIfInBounds_toArray, List.set_cons_zero, List.set_cons_succ]
            refine wpAnyH_take (i := 3) (oi := ⟨some 29, _, _, _, _, _⟩) (v := undef) rfl (by kernel_rfl) (by kernel_rfl) (by kernel_rfl) (fun _ _ _ h => h) (Or.inr ⟨by rfl, by rfl⟩) (by assumption) ?_
            try simp only [Act.put, List.setIfInBounds_toArray, List.set_cons_zero, List.set_cons_succ]
            refine wpAnyH_take (i := 4) (oi := ⟨some 30, _, _, _, _, _⟩) (v := undef) rfl (by kernel_rfl) (by kernel_rfl) (by kernel_rfl) (fun _ _ _ h => h) (Or.inr ⟨by rfl, by rfl⟩) (by assumption) ?_
            try simp only [Act.put, List.setIfInBounds_toArray, List.set_cons_zero, List.set_cons_succ]
            refine wpAnyH_take (i := 5) (oi := ⟨some 31, _, _, _, _, _⟩) (v := undef) rfl (by kernel_rfl) (by kernel_rfl) (by kernel_rfl) (fun _ _ _ h => h) (Or.inr ⟨by rfl, by rfl⟩) (by assumption) ?_
            try simp only [Act.put, List.setIfInBounds_toArray, List.set_cons_zero, List.set_cons_succ]
            refine wpAnyH_take (i := 6) (oi := ⟨some 32, _, _, _, _, _⟩) (v := undef) rfl (by kernel_rfl) (by kernel_rfl) (by kernel_rfl) (fun _ _ _ h => h) (Or.inr ⟨by rfl, by rfl⟩) (by assumption) ?_
            try simp only [Act.put, List.setIfInBounds_toArray, List.set_cons_zero, List.set_cons_succ]
            refine wpAnyH_take (i := 7) (oi := ⟨some 33, _, _, _, _, _⟩) (v := undef) rfl (by kernel_rfl) (by kernel_rfl) (by kernel_rfl) (fun _ _ _ h => h) (Or.inr ⟨by rfl, by rfl⟩) (by assumption) ?_
            try simp only [Act.put, List.setIfInBounds_toArray, List.set_cons_zero, List.set_cons_succ]
            refine wpAnyH_take (i := 8) (oi := ⟨some 34, _, _, _, _, _⟩) (v := undef) rfl (by kernel_rfl) (by kernel_rfl) (by kernel_rfl) (fun _ _ _ h => h) (Or.inr ⟨by rfl, by rfl⟩) (by assumption) ?_
            try simp only [Act.put, List.setIfInBounds_toArray, List.set_cons_zero, List.set_cons_succ]
            refine wpAnyH_take (i := 9) (oi := ⟨some 35, _, _, _, _, _⟩) (v := ?_) rfl (by kernel_rfl) (by kernel_rfl) (by kernel_rfl) (fun _ _ _ h => h) (Or.inl ⟨by rfl, ?_⟩) (by assumption) ?_
            rotate_left
            · (intro w' hSw; (try dsimp only at hSw); go_simp <;> (with_reducible rfl))
            try simp only [Act.put, List.setIfInBounds_toArray, List.set_cons_zero, List.set_cons_succ]
            refine wpAnyH_ready (rs := [10]) (by kernel_rfl) (by simp) ?_
            refine AllReadyH.cons (o := ⟨some 6, _, _, _, _, _⟩) rfl (fun K' hK => ?_) AllReadyH.nil
            go_simp
            refine hK.out _ _ trivial (fun hHeld => ?_)
            clear hK K'
            try simp only [Act.put, List.setIfInBounds_toArray, List.set_cons_zero, List.set_cons_succ]
            refine wpAnyH_done (by kernel_rfl) ?_ _
            go_wp2_with fail
            go_roundw
            case rel => exact ⟨k + 1, by omega, by go_num, by rw [HN.out, Bool.true_or], HB.out.drew⟩
            case measure => simp [Go.RowKit.intOf]; omega
        · obtain rfl : k = 4 := by omega
          have HB := hide hB
          cases hu : unitTo x 4
          · have HE2 := hide (show v = 3 by
              have h3 : refE (F i) = 3 := by rw [HXF.out] at HV hu; rw [HV.out, hu]; rfl
              have h4 := HQ.out (by show refE (F i) ≠ 0; rw [h3]; decide)
              rw [HE.out, HUM.out, h4, if_neg (by show ¬ refE (F i) = 0; rw [h3]; decide)]
              exact h3)
            clear HQ HG HV hB
            go_wp2_with fail
            go_ret
            exact ⟨by rw [HE2.out]; rfl, HB.out⟩
          · have HN := hide (show badE (fun j => refE (F j)) (i + 1) = 0 by
              have h3 : refE (F i) = 0 := by rw [HXF.out] at HV hu; rw [HV.out, hu]; rfl
              rw [HG.out]
              exact h3)
            clear HQ HG HV hB
            go_wp2_with fail
            go_roundw
            case rel => exact ⟨i + 1, by omega, by go_num, HN, HB.out⟩
            case measure => simp [Go.RowKit.intOf]; omega
    · obtain rfl : i = m := by omega
      have hltz : ¬ ((i : Int) < (i : Int)) := by omega
      have HE2 := hide (show v = t by rw [HE.out, if_pos (show unitsE F i = 0 from HZ.out)])
      have HB := hide hB
      clear HZ hB
      go_wp2_with fail
      refine (HX.out _ (HJ.out.below HB.out)).mono ?_
      rintro e w2 ⟨rfl, hb⟩
      go_wp2_with fail
      go_ret
      exact ⟨by rw [HE2.out]; rfl, HB.out.trans (hb.mono HB.out.size)⟩
set_option maxHeartbeats 4000000 in
set_option maxRecDepth 100000 in
theorem estimatesOfR_any (A B : Option Addr) (n c d : Nat) (F G : Nat → Gau) (w : World) (hn : n ≤ 1000) (hF : ∀ j, j < n → (F j).Within 1) (hG : ∀ j, j < n → (G j).Within 10000) (hI : GausAt w 0 A n F) (hJ : GausAt w 0 B n G) :
    Calls Try.prog 29 #[.slice A n c, .slice B n d] w fun e w' => ∃ v, e = .returned v ∧ OwnGaus w' w.heap.size v n (fun j => estG (F j) (G j)) ∧ Below w.heap.size w w' := by
  have HI := hide hI
  have HJ := hide hJ
  have HFW := hide hF
  have HGW := hide hG
  clear hI hJ hF hG
  go_enter Try.func29, Try.ntmps29
  go_wp2_with fail
  go_loopw [5, 6] (fun v i wr => ∃ k : Nat, k ≤ n ∧ i = .int .i64 (k : Int) ∧ OwnGaus wr w.heap.size v k (fun j => estG (F j) (G j)) ∧ Below w.heap.size w wr) (fun _ i _ => n - (Go.RowKit.intOf i).toNat)
  case atStart => exact ⟨0, Nat.zero_le _, rfl, ownGaus_nil _ _ _, Below.refl _ _⟩
  case round =>
    obtain ⟨k, hk, rfl, ho, hB⟩ := hrel
    obtain ⟨wA, rfl⟩ : ∃ x : World, x = wr := ⟨_, rfl⟩
    obtain ⟨O, o9, rfl, ho9, hO⟩ := ownGaus_form ho
    have hBs := hB.size
    by_cases hlt : k < n
    · have hltz : (k : Int) < (n : Int) := by omega
      obtain ⟨b, o, rfl, -, hb, c0, c1⟩ := HI.out k hlt
      obtain ⟨b', o', rfl, -, hb', d0, d1⟩ := HJ.out k hlt
      have hfw := HFW.out k hlt
      have hgw := HGW.out k hlt
      obtain ⟨x, hx⟩ : ∃ z, z = F k := ⟨_, rfl⟩
      obtain ⟨y, hy⟩ : ∃ z, z = G k := ⟨_, rfl⟩
      have HXY := hide (And.intro hx hy)
      rw [← hx] at c0 c1 hfw
      rw [← hy] at d0 d1 hgw
      have HCJ := hide (fun W => gconj_any x W (hfw.more (by decide)))
      have HGM := hide (fun W => gmul_any y ⟨x.re, -x.im⟩ 10000 1 W hgw ⟨hfw.re, by have := hfw.im; show -1 ≤ -x.im ∧ -x.im ≤ 1; omega⟩ (by decide))
      obtain ⟨z, hz⟩ : ∃ z, z = estG x y := ⟨_, rfl⟩
      have e1 : y.re * x.re - y.im * -x.im = z.re := by rw [hz]; unfold estG; grind
      have e2 : y.re * -x.im + y.im * x.re = z.im := by rw [hz]; unfold estG; grind
      simp only [e1, e2] at HGM
      have HZ := hide hz
      have HCL := hide (fun W' (h : Below w.heap.size w W') => (⟨(h.cell (p := ⟨b, o + k * 2, none⟩) hb).trans c0, (h.cell (p := ⟨b, o + k * 2 + 1, none⟩) hb).trans c1, (h.cell (p := ⟨b', o' + k * 2, none⟩) hb').trans d0, (h.cell (p := ⟨b', o' + k * 2 + 1, none⟩) hb').trans d1⟩ : W'.cell? ⟨b, o + k * 2, none⟩ = some (.int .i64 x.re) ∧ W'.cell? ⟨b, o + k * 2 + 1, none⟩ = some (.int .i64 x.im) ∧ W'.cell? ⟨b', o' + k * 2, none⟩ = some (.int .i64 y.re) ∧ W'.cell? ⟨b', o' + k * 2 + 1, none⟩ = some (.int .i64 y.im)))
      have hS1 := HCL.out _ hB
      have HO := hide ho
      have HB := hide hB
      clear hx hy hz e1 e2 hb hb' c0 c1 d0 d1 ho hB hO hfw hgw
      go_upto_region 5 with fail
      refine wp_region_held_drew (S := fun w' => w'.cell? ⟨b, o + k * 2, none⟩ = some (.int .i64 x.re) ∧ w'.cell? ⟨b, o + k * 2 + 1, none⟩ = some (.int .i64 x.im) ∧ w'.cell? ⟨b', o' + k * 2, none⟩ = some (.int .i64 y.re) ∧ w'.cell? ⟨b', o' + k * 2 + 1, none⟩ = some (.int .i64 y.im)) (by kernel_rfl) hS1 (fun hHeld => ?_)
      clear hS1
      refine wpAnyH_take (i := 0) (oi := ⟨some 13, _, _, _, _, _⟩) (v := ?_) rfl (by kernel_rfl) (by kernel_rfl) (by kernel_rfl) (fun _ _ _ h => h) (Or.inl ⟨by rfl, ?_⟩) (by assumption) ?_
      rotate_left
      · (intro w' hSw; (try dsimp only at hSw); go_simp <;> (with_reducible rfl))
      try simp only [Act.put, List.setIfInBounds_toArray, List.set_cons_zero, List.set_cons_succ]
      refine wpAnyH_take (i := 1) (oi := ⟨some 14, _, _, _, _, _⟩) (v := ?_) rfl (by kernel_rfl) (by kernel_rfl) (by kernel_rfl) (fun _ _ _ h => h) (Or.inl ⟨by rfl, ?_⟩) (by assumption) ?_
      rotate_left
      · (intro w' hSw; (try dsimp only at hSw); go_simp <;> (with_reducible rfl))
      try simp only [Act.put, List.setIfInBounds_toArray, List.set_cons_zero, List.set_cons_succ]
      refine wpAnyH_take (i := 2) (oi := ⟨some 15, _, _, _, _, _⟩) (v := ?_) rfl (by kernel_rfl) (by kernel_rfl) (by kernel_rfl) (fun _ _ _ h => h) (Or.inl ⟨by rfl, ?_⟩) (by assumption) ?_
      rotate_left
      · (intro w' hSw; (try dsimp only at hSw); go_simp <;> (with_reducible rfl))
      try simp only [Act.put, List.setIfInBounds_toArray, List.set_cons_zero, List.set_cons_succ]
      refine wpAnyH_take (i := 3) (oi := ⟨some 16, _, _, _, _, _⟩) (v := ?_) rfl (by kernel_rfl) (by kernel_rfl) (by kernel_rfl) (fun _ _ _ h => h) (Or.inl ⟨by rfl, ?_⟩) (by assumption) ?_
      rotate_left
      · (intro w' hSw; (try dsimp only at hSw); go_simp <;> (with_reducible rfl))
      try simp only [Act.put, List.setIfInBounds_toArray, List.set_cons_zero, List.set_cons_succ]
      refine wpAnyH_take (i := 4) (oi := ⟨some 17, _, _, _, _, _⟩) (v := ?_) rfl (by kernel_rfl) (by kernel_rfl) (by kernel_rfl) (fun _ _ _ h => h) (Or.inl ⟨by rfl, ?_⟩) (by assumption) ?_
      rotate_left
      · (intro w' hSw; (try dsimp only at hSw); go_simp <;> (with_reducible rfl))
      try simp only [Act.put, List.setIfInBounds_toArray, List.set_cons_zero, List.set_cons_succ]
      refine wpAnyH_take (i := 5) (oi := ⟨some 18, _, _, _, _, _⟩) (v := ?_) rfl (by kernel_rfl) (by kernel_rfl) (by kernel_rfl) (fun _ _ _ h => h) (Or.inl ⟨by rfl, ?_⟩) (by assumption) ?_
      rotate_left
      · (intro w' hSw; (try dsimp only at hSw); go_simp <;> (with_reducible rfl))
      try simp only [Act.put, List.setIfInBounds_toArray, List.set_cons_zero, List.set_cons_succ]
      refine wpAnyH_take (i := 6) (oi := ⟨some 19, _, _, _, _, _⟩) (v := ?_) rfl (by kernel_rfl) (by kernel_rfl) (by kernel_rfl) (fun _ _ _ h => h) (Or.inl ⟨by rfl, ?_⟩) (by assumption) ?_
      rotate_left
      · (intro w' hSw; (try dsimp only at hSw); go_simp <;> (with_reducible rfl))
      try simp only [Act.put, List.setIfInBounds_toArray, List.set_cons_zero, List.set_cons_succ]
      refine wpAnyH_take (i := 7) (oi := ⟨some 20, _, _, _, _, _⟩) (v := ?_) rfl (by kernel_rfl) (by kernel_rfl) (by kernel_rfl) (fun _ _ _ h => h) (Or.inl ⟨by rfl, ?_⟩) (by assumption) ?_
      rotate_left
      · (intro w' hSw; (try dsimp only at hSw); go_simp <;> (with_reducible rfl))
      try simp only [Act.put, List.setIfInBounds_toArray, List.set_cons_zero, List.set_cons_succ]
      refine wpAnyH_take (i := 8) (oi := ⟨some 21, _, _, _, _, _⟩) (v := ?_) rfl (by kernel_rfl) (by kernel_rfl) (by kernel_rfl) (fun _ _ _ h => h) (Or.inl ⟨by rfl, ?_⟩) (by assumption) ?_
      rotate_left
      · (intro w' hSw; (try dsimp only at hSw); go_simp <;> (with_reducible rfl))
      try simp only [Act.put, List.setIfInBounds_toArray, List.set_cons_zero, List.set_cons_succ]
      refine wpAnyH_ready (rs := [9]) (by kernel_rfl) (by simp) ?_
      refine AllReadyH.cons (o := ⟨some 22, _, _, _, _, _⟩) rfl (fun K' hK => ?_) AllReadyH.nil
      go_simp
      go_at_call 70
      refine (HCJ.out _).mono ?_
      rintro e w2 ⟨rfl, hb2⟩
      have hc2 : Below wA.heap.size wA w2 := by first | exact hb2 | exact below_of_drew hb2 | exact below_of_drew (below_of_drew hb2)
      have HO2 := hide (HO.out.below hc2)
      have hB2 := HB.out.trans (hc2.mono hBs)
      have hS2 := HCL.out _ hB2
      clear hb2 HO HB hc2
      go_wp2_with fail
      refine hK.out _ _ hS2 (fun hHeld => ?_)
      clear hK K'
      try simp only [Act.put, List.setIfInBounds_toArray, List.set_cons_zero, List.set_cons_succ]
      refine wpAnyH_ready (rs := [10]) (by kernel_rfl) (by simp) ?_
      refine AllReadyH.cons (o := ⟨some 23, _, _, _, _, _⟩) rfl (fun K' hK => ?_) AllReadyH.nil
      go_simp
      go_at_call 69
      refine (HGM.out _).mono ?_
      rintro e w3 ⟨rfl, hb3⟩
      have hc3 : Below w2.heap.size w2 w3 := by first | exact hb3 | exact below_of_drew hb3 | exact below_of_drew (below_of_drew hb3)
      have HO3 := hide (HO2.out.below hc3)
      have hB3 := hB2.trans (hc3.mono hB2.size)
      have hS3 := HCL.out _ hB3
      have hBs3 := hB3.size
      clear hb3 HO2 hB2 hc3 hS2
      go_wp2_with fail
      refine hK.out _ _ hS3 (fun hHeld => ?_)
      clear hK K'
      try simp only [Act.put, List.setIfInBounds_toArray, List.set_cons_zero, List.set_cons_succ]
      refine wpAnyH_ready (rs := [11]) (by kernel_rfl) (by simp) ?_
      refine AllReadyH.cons (o := ⟨some 24, _, _, _, _, _⟩) rfl (fun K' hK => ?_) AllReadyH.nil
      go_simp
      have hAL : Below w.heap.size w (w3.alloc (.cells #[.int .i64 z.re, .int .i64 z.im] 61)) := hB3.alloc hBs3 _
      refine hK.out _ _ (HCL.out _ hAL) (fun hHeld => ?_)
      clear hK K'
      try simp only [Act.put, List.setIfInBounds_toArray, List.set_cons_zero, List.set_cons_succ]
      refine wpAnyH_ready (rs := [12]) (by kernel_rfl) (by simp) ?_
      refine AllReadyH.cons (o := ⟨some 25, _, _, _, _, _⟩) rfl (fun K' hK => ?_) AllReadyH.nil
      refine step_append_gaus _ rfl (.tmp 13) (.tmp 24) rfl w.heap.size 0 (.slice O k o9) k _ rfl (HO3.out.alloc _) (some ⟨_, 0, none⟩) 1 1 (fun _ => z) rfl (GausAt.one (Box.made rfl)) (by omega) (by simp; omega) ?_
      intro v' w' h1 hb4
      have hB6 := hAL.trans hb4
      refine hK.out _ _ (HCL.out _ hB6) (fun hHeld => ?_)
      clear hK K'
      try simp only [Act.put, List.setIfInBounds_toArray, List.set_cons_zero, List.set_cons_succ]
      refine wpAnyH_ready (rs := [13]) (by kernel_rfl) (by simp) ?_
      refine AllReadyH.cons (o := ⟨some 5, _, _, _, _, _⟩) rfl (fun K' hK => ?_) AllReadyH.nil
      go_simp
      refine hK.out _ _ (HCL.out _ hB6) (fun hHeld => ?_)
      clear hK K'
      try simp only [Act.put, List.setIfInBounds_toArray, List.set_cons_zero, List.set_cons_succ]
      refine wpAnyH_done (by kernel_rfl) ?_ _
      go_wp2_with fail
      go_roundw
      case rel =>
        refine ⟨k + 1, by omega, by go_num, h1.congr fun j hj => ?_, hB6⟩
        unfold catG
        by_cases e : j < k
        · rw [if_pos e]
        · obtain rfl : j = k := by omega
          rw [if_neg e, HZ.out, HXY.out.1, HXY.out.2]
      case measure => simp [Go.RowKit.intOf]; omega
    · obtain rfl : k = n := by omega
      have hltz : ¬ ((k : Int) < (k : Int)) := by omega
      have HO := hide ho
      have HB := hide hB
      clear ho hB hO
      go_wp2_with fail
      go_ret
      exact ⟨_, rfl, HO.out, HB.out⟩
end Go.Proofs.Ytmcgmlhpbpjmgaa
/- The walk of WaveEstimates. -/
namespace Go.Proofs.Ytmcgmlhpbpjmgaa
open Go.RowKit
theorem bendV_wrong {n : Nat} {F : Nat → Gau} (h : bendE n F ≠ 0) : bendV n F = 0 := by unfold bendV; rw [if_neg h]
theorem bendV_right {n : Nat} {F : Nat → Gau} (h : bendE n F = 0) : bendV n F = bendTo F n := by unfold bendV; rw [if_pos h]
set_option maxHeartbeats 16000000 in
set_option maxRecDepth 100000 in
theorem waveEstimates_walk (A B : Option Addr) (n c m d : Nat) (F G : Nat → Gau) (s : Int) (w : World) (hn9 : n ≤ 9223372036854775807) (hm9 : m ≤ 9223372036854775807) (hI : GausAt w 0 A n F) (hJ : GausAt w 0 B m G) :
    Calls Try.prog 5 #[.slice A n c, .slice B m d, .int .i64 s] w fun e w' => e = .returned (.bool true) ∧ Below w.heap.size w w' := by
  have HAW := hide (fun W => awake_any W)
  have HI := hide hI
  have HJ := hide hJ
  clear hI hJ
  by_cases h1 : (n : Int) > 42
  · clear hn9 hm9
    go_enter Try.func5, Try.ntmps5
    go_wp2_with fail
    refine (HAW.out _).mono ?_
    rintro e w1 ⟨rfl, hb1⟩
    go_wp2_with fail
    go_ret
    exact ⟨rfl, hb1⟩
  by_cases h2 : (m : Int) > 42
  · clear hn9 hm9
    go_enter Try.func5, Try.ntmps5
    go_wp2_with fail
    refine (HAW.out _).mono ?_
    rintro e w1 ⟨rfl, hb1⟩
    go_wp2_with fail
    go_ret
    exact ⟨rfl, hb1⟩
  by_cases h3 : s > 4 ∧ s ≤ 20
  · obtain ⟨h4, h5⟩ := h3
    clear hn9 hm9
    go_enter Try.func5, Try.ntmps5
    go_wp2_with fail
    refine (HAW.out _).mono ?_
    rintro e w1 ⟨rfl, hb1⟩
    go_wp2_with fail
    go_ret
    exact ⟨rfl, hb1⟩
  have hn : n ≤ 42 := by omega
  have hm : m ≤ 42 := by omega
  have HC1 := hide (fun W (h : GausAt W 0 A n F) => copyGausses_own A n c F W (by omega) h)
  have HC2 := hide (fun W (h : GausAt W 0 B m G) => copyGausses_own B m d G W (by omega) h)
  have HES := hide (fun X x Y y W (h : GausAt W 0 X n F) (k : GausAt W 0 Y m G) => EstimatesOf_any X Y n x m y F G W (by omega) (by omega) h k)
  have HIP := hide (fun X x W (hx : m ≤ x) (h : GausAt W 0 X m G) => Interpolated_any X m x G s W (by omega) hx h)
  have HBO := hide (fun X x W (h : GausAt W 0 X m G) => BendOf_any X m x G W (by omega) h)
  have HEE := hide (fun W (h : GausAt W 0 A n F) (k : GausAt W 0 B m G) => estimatesErrR_any A B n c m d F G W (by omega) (by omega) h k)
  have HBE := hide (fun W (h : GausAt W 0 B m G) => betweenErrR_any B m d G s W (by omega) h)
  have HBR := hide (fun W (h : GausAt W 0 B m G) => bendErrR_any B m d G W (by omega) h)
  have HER := hide (fun W (hE : estE n m F G = 0) (h : GausAt W 0 A n F) (k : GausAt W 0 B m G) => (show Calls Try.prog 29 #[.slice A n c, .slice B m d] W fun e w' => ∃ v, e = .returned v ∧ OwnGaus w' W.heap.size v m (fun j => estG (F j) (G j)) ∧ Below W.heap.size W w' from by
    obtain ⟨-, rfl, hu, hg⟩ := estE_zero hE
    exact estimatesOfR_any A B m c d F G W (by omega) (unitsE_units hu) (gausE_within hg) h k))
  have HIR := hide (fun W (hV : interE m G s = 0) (h : GausAt W 0 B m G) => (show Calls Try.prog 32 #[.slice B m d, .int .i64 s] W fun e w' => ∃ v, e = .returned v ∧ OwnPhas w' W.heap.size v ((m - 1) * s.toNat + 1) (interF G s.toNat) ∧ Below W.heap.size W w' from by
    obtain ⟨h0, h40, hg, hs1, hs2⟩ := interE_zero hV
    obtain ⟨u, rfl⟩ : ∃ u : Nat, s = (u : Int) := ⟨s.toNat, by omega⟩
    rw [Int.toNat_natCast]
    exact interpolatedR_any B m d G u W h0 h40 (by omega) (gausE_within hg) h))
  have HNB := hide (fun (hV : interE m G s = 0) => (show (m - 1) * s.toNat + 1 ≤ 1000000 from by
    obtain ⟨h0, h40, hg, hs1, hs2⟩ := interE_zero hV
    have := Nat.mul_le_mul (show m - 1 ≤ 39 by omega) (show s.toNat ≤ 20 by omega)
    omega))
  have HBF := hide (fun W (hV : bendE m G = 0) (h : GausAt W 0 B m G) => (show Calls Try.prog 34 #[.slice B m d] W fun e w' => e = .returned (.int .i64 (bendTo G m)) ∧ Below W.heap.size W w' from by
    obtain ⟨h8, hg⟩ := bendE_zero hV
    exact bendOfR_any B m d G W h8 (gausE_within hg) h))
  have HBW := hide (bendV_wrong (n := m) (F := G))
  have HBV := hide (bendV_right (n := m) (F := G))
  have HGA := hide (fun X x Y y W (h : GausAt W 0 X m (fun j => estG (F j) (G j))) (k : GausAt W 0 Y m (fun j => estG (F j) (G j))) => gausses_alike X Y m x y _ _ W (by omega) h k (fun _ _ => rfl))
  have h3' : s ≤ 4 ∨ 20 < s := by omega
  clear h3
  go_enter Try.func5, Try.ntmps5
  go_wp2_with fail
  refine (HAW.out _).mono ?_
  rintro e w1 ⟨rfl, hB1⟩
  clear HAW
  go_upto_region 3 with fail
  go_cut [31] (fun v wx => v = .bool false ∧ wx = w1)
  case first =>
    rcases h3' with h3' | h3'
    · have h4 : ¬ s > 4 := by omega
      clear h3'
      go_wp2_with fail
      go_meet
      case rel => exact ⟨by rw [show decide (42 < (n : Int)) = false from decide_eq_false (by omega), show decide (42 < (m : Int)) = false from decide_eq_false (by omega)]; rfl, rfl⟩
    · have h4 : s > 4 := by omega
      have h5 : ¬ s ≤ 20 := by omega
      clear h3'
      go_wp2_with fail
      go_meet
      case rel => exact ⟨by rw [show decide (42 < (n : Int)) = false from decide_eq_false (by omega), show decide (42 < (m : Int)) = false from decide_eq_false (by omega)]; rfl, rfl⟩
  case rest =>
    obtain ⟨rfl, rfl⟩ := hcut
    obtain ⟨w2, rfl⟩ : ∃ x : World, x = wc := ⟨_, rfl⟩
    have hB2 := hB1
    clear hB1 h1 h2 h3'
    go_wp2_with fail
    refine (HC1.out _ (HI.out.below hB2)).mono ?_
    rintro e w3 ⟨v3, rfl, ho3, hb3⟩
    obtain ⟨X3, x3, rfl, -, hX3⟩ := ownGaus_form ho3
    have hB3 := hB2.trans (hb3.mono hB2.size)
    have HX3 := hide (hX3.weak (Nat.zero_le _))
    clear ho3 hX3 hb3 hB2 HC1
    go_wp2_with fail
    refine (HC2.out _ (HJ.out.below hB3)).mono ?_
    rintro e w4 ⟨v4, rfl, ho4, hb4⟩
    obtain ⟨X4, x4, rfl, -, hX4⟩ := ownGaus_form ho4
    have hB4 := hB3.trans (hb4.mono hB3.size)
    have HX4 := hide (hX4.weak (Nat.zero_le _))
    replace HX3 := hide (HX3.out.below hb4)
    clear ho4 hX4 hb4 hB3
    go_wp2_with fail
    refine (HES.out _ _ _ _ _ HX3.out HX4.out).mono ?_
    rintro e w5 ⟨v5, rfl, hg5, hb5⟩
    have hB5 := hB4.trans (hb5.mono hB4.size)
    obtain ⟨E, hE⟩ : ∃ z, z = estE n m F G := ⟨_, rfl⟩
    rw [← hE] at hg5 HEE HER ⊢
    have HG := hide hg5
    clear hg5 hb5 hB4 HX3 HX4 HES hE
    go_wp2_with fail
    refine (HC2.out _ (HJ.out.below hB5)).mono ?_
    rintro e w6 ⟨v6, rfl, ho6, hb6⟩
    obtain ⟨X6, x6, rfl, hx6, hX6⟩ := ownGaus_form ho6
    have hB6 := hB5.trans (hb6.mono hB5.size)
    have HX6 := hide (hX6.weak (Nat.zero_le _))
    replace HG := hide (HG.out.below hb6)
    clear ho6 hX6 hb6 hB5
    go_wp2_with fail
    refine (HIP.out _ _ _ hx6 HX6.out).mono ?_
    rintro e w7 ⟨v7, rfl, hg7, hb7⟩
    have hB7 := hB6.trans (hb7.mono hB6.size)
    obtain ⟨V, hV⟩ : ∃ z, z = interE m G s := ⟨_, rfl⟩
    obtain ⟨N, hN⟩ : ∃ z, z = (m - 1) * s.toNat + 1 := ⟨_, rfl⟩
    obtain ⟨P, hP⟩ : ∃ z, z = interF G s.toNat := ⟨_, rfl⟩
    rw [← hV, ← hN, ← hP] at hg7
    rw [← hV] at HBE HIR HNB ⊢
    rw [← hN] at HIR HNB
    rw [← hP] at HIR
    have HH := hide hg7
    replace HG := hide (HG.out.below hb7)
    clear hg7 hb7 hB6 HX6 HIP hx6 hV hN hP
    go_wp2_with fail
    refine (HC2.out _ (HJ.out.below hB7)).mono ?_
    rintro e w8 ⟨v8, rfl, ho8, hb8⟩
    obtain ⟨X8, x8, rfl, -, hX8⟩ := ownGaus_form ho8
    have hB8 := hB7.trans (hb8.mono hB7.size)
    have HX8 := hide (hX8.weak (Nat.zero_le _))
    replace HG := hide (HG.out.below hb8)
    replace HH := hide (HH.out.below hb8)
    clear ho8 hX8 hb8 hB7 HC2
    go_wp2_with fail
    refine (HBO.out _ _ _ HX8.out).mono ?_
    rintro e w9 ⟨rfl, hb9⟩
    have hB9 := hB8.trans (hb9.mono hB8.size)
    obtain ⟨U, hU⟩ : ∃ z, z = bendE m G := ⟨_, rfl⟩
    obtain ⟨R, hR⟩ : ∃ z, z = bendV m G := ⟨_, rfl⟩
    rw [← hU] at HBR HBF HBW HBV ⊢
    rw [← hR] at HBW HBV ⊢
    replace HG := hide (HG.out.below hb9)
    replace HH := hide (HH.out.below hb9)
    clear hb9 hB8 HX8 HBO hU hR
    go_wp2_with fail
    refine (HEE.out _ (HI.out.below hB9) (HJ.out.below hB9)).mono ?_
    rintro e w10 ⟨rfl, hb10⟩
    have hB10 := hB9.trans (hb10.mono hB9.size)
    replace HG := hide (HG.out.below hb10)
    replace HH := hide (HH.out.below hb10)
    clear hb10 hB9 HEE
    go_upto_region 9 with fail
    go_cut [83] (fun v wx => v = .bool false ∧ Below w10.heap.size w10 wx)
    case first =>
      rcases HG.out with ⟨hv, X, x, rfl, hX⟩ | ⟨hv, rfl⟩
      · have HRR := hide (HER.out w10 hv (HI.out.below hB10) (HJ.out.below hB10))
        have HXX := hide hX
        subst hv
        clear hX HER HG HH
        go_wp2_with fail
        refine HRR.out.mono ?_
        rintro e w11 ⟨v11, rfl, ho11, hb11⟩
        obtain ⟨X11, x11, rfl, -, hX11⟩ := ownGaus_form ho11
        have HX11 := hide (hX11.weak (Nat.zero_le _))
        have HXX2 := hide (HXX.out.below hb11)
        clear ho11 hX11 HRR HXX
        go_wp2_with fail
        refine (HGA.out _ _ _ _ _ HXX2.out HX11.out).mono ?_
        rintro e w12 ⟨rfl, hb12⟩
        go_wp2_with fail
        go_meet
        case rel => exact ⟨rfl, hb11.trans (hb12.mono hb11.size)⟩
      · have t1 : (E != 0) = true := by simpa using hv
        have t2 : (E != E) = false := by simp
        have t3 : (E == 0) = false := by simpa using hv
        clear hv HER HG HH
        go_wp2_with fail
        go_meet
        case rel => exact ⟨rfl, Below.refl _ _⟩
    case rest =>
      obtain ⟨rfl, hb11⟩ := hcut
      obtain ⟨w11, rfl⟩ : ∃ x : World, x = wc := ⟨_, rfl⟩
      have hB11 := hB10.trans (hb11.mono hB10.size)
      replace HH := hide (HH.out.below hb11)
      clear hb11 hB10 HG HER HGA
      go_wp2_with fail
      refine (HBE.out _ (HJ.out.below hB11)).mono ?_
      rintro e w12 ⟨rfl, hb12⟩
      have hB12 := hB11.trans (hb12.mono hB11.size)
      replace HH := hide (HH.out.below hb12)
      clear hb12 hB11 HBE
      go_upto_region 12 with fail
      go_cut [114] (fun v wx => v = .bool false ∧ Below w12.heap.size w12 wx)
      case first =>
        rcases HH.out with ⟨hv, X, x, rfl, hX⟩ | ⟨hv, rfl⟩
        · have HRR := hide (HIR.out w12 hv (HJ.out.below hB12))
          have HXX := hide hX
          have hN9 := HNB.out hv
          subst hv
          clear hX HIR HH
          go_wp2_with fail
          refine HRR.out.mono ?_
          rintro e w13 ⟨v13, rfl, ho13, hb13⟩
          obtain ⟨X13, x13, rfl, -, hX13⟩ := ownPhas_form ho13
          have HX13 := hide (hX13.weak (Nat.zero_le _))
          have HXX2 := hide (HXX.out.below hb13)
          clear ho13 hX13 HRR HXX
          go_wp2_with fail
          refine (phasors_alike _ _ _ _ _ _ _ _ hN9 HXX2.out HX13.out (fun _ _ => rfl)).mono ?_
          rintro e w14 ⟨rfl, hb14⟩
          go_wp2_with fail
          go_meet
          case rel => exact ⟨rfl, hb13.trans (hb14.mono hb13.size)⟩
        · have t1 : (V != 0) = true := by simpa using hv
          have t2 : (V != V) = false := by simp
          have t3 : (V == 0) = false := by simpa using hv
          clear hv HIR HH
          go_wp2_with fail
          go_meet
          case rel => exact ⟨rfl, Below.refl _ _⟩
      case rest =>
        obtain ⟨rfl, hb13⟩ := hcut
        obtain ⟨w13, rfl⟩ : ∃ x : World, x = wc := ⟨_, rfl⟩
        have hB13 := hB12.trans (hb13.mono hB12.size)
        clear hb13 hB12 HH HIR HNB
        go_wp2_with fail
        refine (HBR.out _ (HJ.out.below hB13)).mono ?_
        rintro e w14 ⟨rfl, hb14⟩
        have hB14 := hB13.trans (hb14.mono hB13.size)
        clear hb14 hB13 HBR
        by_cases hu : U = 0
        · have hr := HBV.out hu
          have HRR := hide (HBF.out w14 hu (HJ.out.below hB14))
          rw [← hr] at HRR
          have t1 : (R == R) = true := by simp
          subst hu
          clear hr HBF HBV HBW
          go_wp2_with fail
          refine HRR.out.mono ?_
          rintro e w15 ⟨rfl, hb15⟩
          go_wp2_with fail
          go_ret
          exact ⟨rfl, hB14.trans (hb15.mono hB14.size)⟩
        · have t1 : (U != 0) = true := by simpa using hu
          have t2 : (U == U) = true := by simp
          have hr := HBW.out hu
          subst hr
          clear hu HBF HBV HBW
          go_wp2_with fail
          go_ret
          exact ⟨rfl, hB14⟩
end Go.Proofs.Ytmcgmlhpbpjmgaa
