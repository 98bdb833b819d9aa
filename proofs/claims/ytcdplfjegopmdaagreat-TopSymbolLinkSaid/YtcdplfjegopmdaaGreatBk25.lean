/- Lemmas: MS64, S68, S69, S70, S75, S71, S72, S73. -/
import Derived.Test.YtcdplfjegopmdaaGreatBk01
import Derived.Test.YtcdplfjegopmdaaGreatBk02
import Derived.Test.YtcdplfjegopmdaaGreatBk03
import Derived.Test.YtcdplfjegopmdaaGreatBk04
import Derived.Test.YtcdplfjegopmdaaGreatBk06
import Derived.Test.YtcdplfjegopmdaaGreatBk07
import Derived.Test.YtcdplfjegopmdaaGreatBk08
import Derived.Test.YtcdplfjegopmdaaGreatBk09
import Derived.Test.YtcdplfjegopmdaaGreatBk10
import Derived.Test.YtcdplfjegopmdaaGreatBk11
import Derived.Test.YtcdplfjegopmdaaGreatBk12
import Derived.Test.YtcdplfjegopmdaaGreatBk13
import Derived.Test.YtcdplfjegopmdaaGreatBk14
import Derived.Test.YtcdplfjegopmdaaGreatBk15
import Derived.Test.YtcdplfjegopmdaaGreatBk16
import Derived.Test.YtcdplfjegopmdaaGreatBk17
import Derived.Test.YtcdplfjegopmdaaGreatBk18
import Derived.Test.YtcdplfjegopmdaaGreatBk19
import Derived.Test.YtcdplfjegopmdaaGreatBk20
import Derived.Test.YtcdplfjegopmdaaGreatBk21
import Derived.Test.YtcdplfjegopmdaaGreatBk22
import Derived.Test.YtcdplfjegopmdaaGreatBk23
import Derived.Test.YtcdplfjegopmdaaGreatBk24
set_option linter.unusedVariables false
set_option linter.unusedSimpArgs false
/- S64 of chapter 03, in a namespace of its own. -/
namespace Go.Proofs.YtcdplfjegopmdaaGreat
open Go Go.RowKit Go.Lib Ieee
theorem bitE_parts {n : Nat} {F : Nat → Int} (h : bitE n F 400 = 0) : 0 < n ∧ n ≤ 400 ∧ ∀ j, j < n → IsBit (F j) := by
  unfold bitE at h
  by_cases h0 : n = 0
  · rw [if_pos h0] at h; exact absurd h (by decide)
  rw [if_neg h0] at h
  by_cases h1 : (400 : Int) < (n : Int)
  · rw [if_pos h1] at h; exact absurd h (by decide)
  rw [if_neg h1] at h
  unfold unI at h
  by_cases hb : bitsB n F = true
  · exact ⟨by omega, by omega, bitsB_iff.1 hb⟩
  · rw [if_neg hb] at h; exact absurd h (by decide)
end Go.Proofs.YtcdplfjegopmdaaGreat
/- Base on whole complex numbers: GMul, GAdd, GSub, GConj, GNorm, Size. -/
namespace Go.Proofs.YtcdplfjegopmdaaGreat
open Go.RowKit
theorem pairS_cells {w : World} {b : Nat} {t : TypeId} {x y : Value} (h : Box w b t #[x, y]) : w.cell? ⟨b, 0, none⟩ = some x ∧ w.cell? ⟨b, 1, none⟩ = some y := ⟨h.at_ 0, h.at_ 1⟩
set_option maxHeartbeats 2000000 in
theorem gaddS_any (x y : Gau) (M : Int) (w : World) (hx : (x.plus y).Within M) (hM : M ≤ 9000000000000000000) :
    Calls Tryz.prog 29 #[.agg #[.int .i64 x.re, .int .i64 x.im], .agg #[.int .i64 y.re, .int .i64 y.im]] w fun e w' => e = .returned (.agg #[.int .i64 (x.plus y).re, .int .i64 (x.plus y).im]) ∧ Below w.heap.size w w' := by
  have h1 := hx.re
  have h2 := hx.im
  have q1 : IntKind.i64.wrap (x.re + y.re) = (x.plus y).re := IntWalk.i64_in _ (by unfold Gau.plus at h1; simp only at h1; omega)
  have q2 : IntKind.i64.wrap (x.im + y.im) = (x.plus y).im := IntWalk.i64_in _ (by unfold Gau.plus at h2; simp only at h2; omega)
  clear h1 h2 hx hM
  obtain ⟨P, hP⟩ : ∃ z, (x.plus y).re = z := ⟨_, rfl⟩
  obtain ⟨Q, hQ⟩ : ∃ z, (x.plus y).im = z := ⟨_, rfl⟩
  rw [hP] at q1
  rw [hQ] at q2
  rw [hP, hQ]
  clear hP hQ
  go_enter Tryz.func29, Tryz.ntmps29
  go_wp2_with fail
  have hb : Box (((w.alloc (.cells #[.int .i64 x.re, .int .i64 x.im] 62)).alloc (.cells #[.int .i64 y.re, .int .i64 y.im] 62)).alloc (.cells #[.int .i64 P, .int .i64 Q] 62)) (w.heap.size + 1 + 1) 62 #[.int .i64 P, .int .i64 Q] := Box.made (by simp)
  obtain ⟨y0, y1⟩ := pairS_cells hb
  refine bodyPost_ret (v := .agg #[.int .i64 P, .int .i64 Q]) ?_ rfl ⟨rfl, by (repeat (first | (with_reducible exact Below.refl _ _) | (with_reducible refine Go.below_drewN ?_ _) | (with_reducible refine Below.drew ?_) | (with_reducible refine Below.alloc ?_ (by first | exact Nat.le_refl _ | (simp; done) | (simp; omega) | omega) _) | (with_reducible refine Below.setCell ?_ (by first | exact Nat.le_refl _ | (simp; done) | (simp; omega) | omega) _)))⟩
  simp [results, Tryz.results29, go_sem, y0, y1]
set_option maxHeartbeats 2000000 in
theorem sizedR_any (x : Gau) (M : Int) (w : World) (hM : 0 ≤ M ∧ M ≤ 9000000000000000000) :
    Calls Tryz.prog 45 #[.agg #[.int .i64 x.re, .int .i64 x.im], .int .i64 M] w fun e w' => e = .returned (.bool (x.isIn M)) ∧ Below w.heap.size w w' := by
  have q1 : IntKind.i64.wrap (-M) = -M := IntWalk.i64_in _ (by omega)
  have HI := hide (show x.isIn M = (withinB x.re (-M) M && withinB x.im (-M) M) from rfl)
  generalize x.isIn M = v at *
  clear hM
  cases ea : withinB x.re (-M) M
  · have HV := hide (show v = false from by rw [HI.out, ea]; rfl)
    clear HI
    go_enter Tryz.func45, Tryz.ntmps45
    go_wp2_with (go_at_call 27; refine (within_any _ _ _ _).mono ?_; rintro e w' ⟨rfl, rfl⟩; rw [ea])
    go_ret
    exact ⟨by rw [HV.out]; rfl, by (repeat (first | (with_reducible exact Below.refl _ _) | (with_reducible refine Go.below_drewN ?_ _) | (with_reducible refine Below.drew ?_) | (with_reducible refine Below.alloc ?_ (by first | exact Nat.le_refl _ | (simp; done) | (simp; omega) | omega) _) | (with_reducible refine Below.setCell ?_ (by first | exact Nat.le_refl _ | (simp; done) | (simp; omega) | omega) _)))⟩
  have HV := hide (show v = withinB x.im (-M) M from by rw [HI.out, ea]; rfl)
  clear HI
  go_enter Tryz.func45, Tryz.ntmps45
  go_wp2_with (go_at_call 27; refine (within_any _ _ _ _).mono ?_; rintro e w' ⟨rfl, rfl⟩; first | rw [ea] | skip)
  go_ret
  exact ⟨by rw [HV.out]; rfl, by (repeat (first | (with_reducible exact Below.refl _ _) | (with_reducible refine Go.below_drewN ?_ _) | (with_reducible refine Below.drew ?_) | (with_reducible refine Below.alloc ?_ (by first | exact Nat.le_refl _ | (simp; done) | (simp; omega) | omega) _) | (with_reducible refine Below.setCell ?_ (by first | exact Nat.le_refl _ | (simp; done) | (simp; omega) | omega) _)))⟩
end Go.Proofs.YtcdplfjegopmdaaGreat
/- The reference: SymbolsErr, LayersErr. -/
namespace Go.Proofs.YtcdplfjegopmdaaGreat
open Go Go.RowKit Go.Lib
theorem insideB_no {M : Int} {n k : Nat} {F : Nat → Gau} (hk : k < n) (h : (F k).isIn M = false) : insideB M n F = false := by
  rw [← Bool.not_eq_true, insideB_iff]
  intro hh
  have := Gau.isIn_iff.2 (hh k hk)
  rw [h] at this
  exact absurd this (by decide)
set_option maxHeartbeats 4000000 in
set_option maxRecDepth 100000 in
theorem SymbolsErrR_any (A : Option Addr) (n c : Nat) (F : Nat → Gau) (w : World) (hn : n ≤ 100000) (hI : GausAt w 0 A n F) :
    Calls Tryz.prog 20 #[.slice A n c] w fun e w' => e = .returned (.int .i64 (symsE n F)) ∧ Below w.heap.size w w' := by
  have HE := hide (show symsE n F = if n = 0 then 10 else if 200 < n then 8 else unI (insideB 100000000 n F) 2 from rfl)
  obtain ⟨E, hE⟩ : ∃ z, symsE n F = z := ⟨_, rfl⟩
  rw [hE] at HE ⊢
  clear hE
  by_cases h0 : n = 0
  · obtain rfl : E = 10 := HE.out.trans (if_pos h0)
    have t0 : ((n : Int) == 0) = true := by simp; omega
    clear hI h0 HE
    go_enter Tryz.func20, Tryz.ntmps20
    go_wp2_with fail
    go_ret
    exact ⟨rfl, Below.refl _ _⟩
  have t0 : ((n : Int) == 0) = false := by simp; omega
  replace HE := hide (HE.out.trans (if_neg h0))
  by_cases h1 : 200 < n
  · obtain rfl : E = 8 := HE.out.trans (if_pos h1)
    have t1 : (200 : Int) < (n : Int) := by omega
    have t2 : (n : Int) > (200 : Int) := by omega
    clear hI h0 HE
    go_enter Tryz.func20, Tryz.ntmps20
    go_wp2_with fail
    go_ret
    exact ⟨rfl, Below.refl _ _⟩
  have t1 : ¬ (200 : Int) < (n : Int) := by omega
  have t2 : ¬ (n : Int) > (200 : Int) := by omega
  replace HE := hide (HE.out.trans (if_neg h1))
  have HI := hide hI
  have HSZ := hide (fun j W => sizedR_any (F j) 100000000 W (by decide))
  clear hI h0 h1
  go_enter Tryz.func20, Tryz.ntmps20
  go_wp2_with fail
  go_loopw [3] (fun i wr => ∃ k : Nat, k ≤ n ∧ i = .int .i64 (k : Int) ∧ Hid (∀ j, j < k → (F j).isIn 100000000 = true) ∧ Hid (Below w.heap.size w wr)) (fun i _ => n - (Go.RowKit.intOf i).toNat)
  case atStart => exact ⟨0, Nat.zero_le _, rfl, hide (fun j hj => absurd hj (Nat.not_lt_zero j)), hide (Below.refl _ _)⟩
  case round =>
    obtain ⟨k, hk, rfl, HZ, HB⟩ := hrel
    obtain ⟨wA, rfl⟩ : ∃ x : World, x = wr := ⟨_, rfl⟩
    by_cases hlt : k < n
    · have hltz : (k : Int) < (n : Int) := by omega
      obtain ⟨b, o, rfl, -, hb, c0, c1⟩ := (HI.out.below HB.out) k hlt
      have HXk := hide (HSZ.out k)
      cases hv : (F k).isIn 100000000
      · rw [hv] at HXk
        obtain rfl : E = 2 := by rw [HE.out, insideB_no hlt hv]; rfl
        clear HSZ HZ HE HI
        generalize F k = x at *
        go_wp2_with fail
        refine (HXk.out _).mono ?_
        rintro e_ w2 ⟨rfl, hb2⟩
        have HB2 := hide (HB.out.trans (hb2.mono HB.out.size))
        clear hb2 c0 c1
        go_wp2_with fail
        go_ret
        exact ⟨rfl, HB2.out⟩
      · rw [hv] at HXk
        have HZ2 := hide (show ∀ j, j < k + 1 → (F j).isIn 100000000 = true from fun j hj => by
          by_cases e : j = k
          · rw [e]; exact hv
          · exact HZ.out j (by omega))
        clear HSZ HZ hv
        generalize F k = x at *
        go_wp2_with fail
        refine (HXk.out _).mono ?_
        rintro e_ w2 ⟨rfl, hb2⟩
        have HB2 := hide (HB.out.trans (hb2.mono HB.out.size))
        clear hb2 c0 c1
        go_wp2_with fail
        go_roundw
        case rel => exact ⟨k + 1, by omega, by go_num, HZ2, HB2⟩
        case measure => simp [Go.RowKit.intOf]; omega
    · obtain rfl : n = k := by omega
      have hltz : ¬ ((n : Int) < (n : Int)) := by omega
      obtain rfl : E = 0 := by rw [HE.out, insideB_iff.2 (fun j hj => Gau.isIn_iff.1 (HZ.out j hj))]; rfl
      clear HZ HE HSZ HI
      go_wp2_with fail
      go_ret
      exact ⟨rfl, HB.out⟩
set_option maxHeartbeats 8000000 in
set_option maxRecDepth 100000 in
theorem LayersErrR_any (A : Option Addr) (n c : Nat) (L : Nat → Nat) (F : Nat → Nat → Gau) (w : World) (hn : n ≤ 100000) (hL : ∀ i, i < n → L i ≤ 100000) (hI : MatsAt w 0 A n L F) :
    Calls Tryz.prog 23 #[.slice A n c] w fun e w' => e = .returned (.int .i64 (laysE n L F)) ∧ Below w.heap.size w w' := by
  obtain ⟨E, hE⟩ : ∃ z, laysE n L F = z := ⟨_, rfl⟩
  rw [hE]
  unfold laysE at hE
  by_cases h0 : n = 0
  · rw [if_pos h0] at hE
    subst hE
    have t0 : ((n : Int) == 0) = true := by simp; omega
    clear hI h0
    go_enter Tryz.func23, Tryz.ntmps23
    go_wp2_with fail
    go_ret
    exact ⟨rfl, Below.refl _ _⟩
  have t0 : ((n : Int) == 0) = false := by simp; omega
  rw [if_neg h0] at hE
  by_cases h1 : 4 < n
  · rw [if_pos h1] at hE
    subst hE
    have t1 : (4 : Int) < (n : Int) := by omega
    clear hI h0
    go_enter Tryz.func23, Tryz.ntmps23
    go_wp2_with fail
    go_ret
    exact ⟨rfl, Below.refl _ _⟩
  rw [if_neg h1] at hE
  have t1 : ¬ (4 : Int) < (n : Int) := by omega
  have HI := hide hI
  have HL := hide hL
  have HE := hide hE
  obtain ⟨B, hB⟩ : ∃ z, (fun i => layE (L i) (L 0) (F i)) = z := ⟨_, rfl⟩
  rw [hB] at HE
  have HBE := hide (fun i => (show B i = layE (L i) (L 0) (F i) by rw [← hB]))
  clear hI hL hE hB
  go_enter Tryz.func23, Tryz.ntmps23
  go_wp2_with fail
  go_loopw [3, 4] (fun i x wr => ∃ k : Nat, k ≤ n ∧ i = .int .i64 (k : Int) ∧ Hid (badE B k = 0) ∧ Hid (Below w.heap.size w wr)) (fun i _ _ => n - (Go.RowKit.intOf i).toNat)
  case atStart => exact ⟨0, Nat.zero_le _, rfl, hide rfl, hide (Below.refl _ _)⟩
  case round =>
    obtain ⟨k, hk, rfl, HZ, HB⟩ := hrel
    obtain ⟨wA, rfl⟩ : ∃ x : World, x = wr := ⟨_, rfl⟩
    by_cases hlt : k < n
    case neg =>
      obtain rfl : n = k := by omega
      have hltz : ¬ (n : Int) < (n : Int) := by omega
      obtain rfl : E = 0 := HE.out.symm.trans HZ.out
      clear HI HL HBE
      go_wp2_with fail
      go_ret
      exact ⟨rfl, HB.out⟩
    have hltz : (k : Int) < (n : Int) := by omega
    obtain ⟨b, o, A0, c0, rfl, -, -, y0, hc0, hc09, -⟩ := (HI.out.below HB.out) 0 (by omega)
    obtain ⟨Ak, ck, y1, hc1, hc2, hRow, -, -⟩ := mat_row (HI.out.below HB.out) hlt
    simp only [Nat.add_zero] at y0
    have hlk := HL.out k hlt
    have hbk := HBE.out k
    have HFST := hide (fun h : B k ≠ 0 => (badE_at HZ.out h n hlt).symm.trans HE.out)
    have HSU := hide (badE_succ (g := B) HZ.out)
    have HRE := hide (fun W (h : Below wA.heap.size wA W) => SymbolsErrR_any Ak (L k) ck (F k) W hlk (hRow.below h))
    unfold layE at hbk
    obtain ⟨s, hs⟩ : ∃ z, symsE (L k) (F k) = z := ⟨_, rfl⟩
    rw [hs] at HRE hbk
    have HAT := hide (fun W (h : Below wA.heap.size wA W) => (⟨bcellW h y0, bcellW h y1⟩ : _ ∧ _))
    obtain ⟨bk, hbk2⟩ : ∃ z, B k = z := ⟨_, rfl⟩
    rw [hbk2] at HFST HSU hbk
    obtain ⟨lk, hlk2⟩ : ∃ z, L k = z := ⟨_, rfl⟩
    obtain ⟨l0, hl0⟩ : ∃ z, L 0 = z := ⟨_, rfl⟩
    rw [hlk2] at hbk hlk
    simp only [hlk2] at HRE y1 HAT
    rw [hl0] at hbk
    simp only [hl0] at HAT y0
    clear hRow hs hbk2 HBE HI HL hc1 hc0 hlk2 hl0 y0
    go_wp2_with fail
    refine (HRE.out _ (Below.refl _ _)).mono ?_
    rintro e_ w2 ⟨rfl, hb2⟩
    obtain ⟨y0, y1⟩ := HAT.out _ hb2
    have HB2 := hide (HB.out.trans (hb2.mono HB.out.size))
    clear hb2 HAT HB HRE
    by_cases hz : s = 0
    case neg =>
      rw [if_neg hz] at hbk
      have tz : (s != 0) = true := by simpa using hz
      have hne : bk ≠ 0 := by rw [hbk]; exact hz
      obtain rfl : E = s := (HFST.out hne).symm.trans hbk
      go_wp2_with fail
      go_ret
      exact ⟨rfl, HB2.out⟩
    subst hz
    rw [if_pos rfl] at hbk
    by_cases hq : lk = l0
    · subst hq
      rw [if_pos rfl] at hbk
      subst hbk
      have tq : ((lk : Int) != (lk : Int)) = false := by simp
      go_wp2_with fail
      go_quiet (fail)
      go_wp2_with fail
      go_roundw
      case rel => exact ⟨k + 1, by omega, by go_num, hide HSU.out, hide (Go.below_drewN HB2.out _)⟩
      case measure => simp [Go.RowKit.intOf]; omega
    · rw [if_neg hq] at hbk
      subst hbk
      have tq : ((lk : Int) != (l0 : Int)) = true := by simp; omega
      obtain rfl : E = 13 := (HFST.out (by decide)).symm
      go_wp2_with fail
      go_quiet (fail)
      go_wp2_with fail
      go_ret
      exact ⟨rfl, Go.below_drewN HB2.out _⟩
end Go.Proofs.YtcdplfjegopmdaaGreat
/- The reference: CheckMatrix, large; Small of the law. -/
namespace Go.Proofs.YtcdplfjegopmdaaGreat
open Go Go.RowKit Go.Lib
set_option maxHeartbeats 8000000 in
set_option maxRecDepth 100000 in
theorem CheckMatrixR_any (A : Option Addr) (n c : Nat) (L : Nat → Nat) (F : Nat → Nat → Gau) (w : World) (hn : n ≤ 100000) (hL : ∀ i, i < n → L i ≤ 100000) (hI : MatsAt w 0 A n L F) :
    Calls Tryz.prog 11 #[.slice A n c] w fun e w' => e = .returned (.int .i64 (matE n L F)) ∧ Below w.heap.size w w' := by
  obtain ⟨E, hE⟩ : ∃ z, matE n L F = z := ⟨_, rfl⟩
  rw [hE]
  unfold matE at hE
  by_cases h0 : n = 0
  · rw [if_pos h0] at hE
    subst hE
    have t0 : ((n : Int) == 0) = true := by simp; omega
    clear hI h0
    go_enter Tryz.func11, Tryz.ntmps11
    go_wp2_with fail
    go_ret
    exact ⟨rfl, Below.refl _ _⟩
  have t0 : ((n : Int) == 0) = false := by simp; omega
  rw [if_neg h0] at hE
  by_cases h1 : 4 < n
  · rw [if_pos h1] at hE
    subst hE
    have t1 : (4 : Int) < (n : Int) := by omega
    clear hI h0
    go_enter Tryz.func11, Tryz.ntmps11
    go_wp2_with fail
    go_ret
    exact ⟨rfl, Below.refl _ _⟩
  rw [if_neg h1] at hE
  have t1 : ¬ (4 : Int) < (n : Int) := by omega
  have HI := hide hI
  have HL := hide hL
  have HE := hide hE
  obtain ⟨B, hB⟩ : ∃ z, (fun i => rowE (L i) (L 0) (F i)) = z := ⟨_, rfl⟩
  rw [hB] at HE
  have HBE := hide (fun i => (show B i = rowE (L i) (L 0) (F i) by rw [← hB]))
  have HSZ := hide (fun i j W => sizedR_any (F i j) 1000 W (by decide))
  clear hI hL hE hB
  go_enter Tryz.func11, Tryz.ntmps11
  go_wp2_with fail
  go_loopw [3, 4] (fun i x wr => ∃ k : Nat, k ≤ n ∧ i = .int .i64 (k : Int) ∧ Hid (badE B k = 0) ∧ Hid (Below w.heap.size w wr)) (fun i _ _ => n - (Go.RowKit.intOf i).toNat)
  case atStart => exact ⟨0, Nat.zero_le _, rfl, hide rfl, hide (Below.refl _ _)⟩
  case round =>
    obtain ⟨k, hk, rfl, HZ, HB⟩ := hrel
    obtain ⟨wA, rfl⟩ : ∃ x : World, x = wr := ⟨_, rfl⟩
    by_cases hlt : k < n
    case neg =>
      obtain rfl : n = k := by omega
      have hltz : ¬ (n : Int) < (n : Int) := by omega
      obtain rfl : E = 0 := HE.out.symm.trans HZ.out
      clear HI HL HBE HSZ
      go_wp2_with fail
      go_ret
      exact ⟨rfl, HB.out⟩
    have hltz : (k : Int) < (n : Int) := by omega
    obtain ⟨b, o, A0, c0, rfl, -, -, y0, hc0, hc09, -⟩ := (HI.out.below HB.out) 0 (by omega)
    obtain ⟨Ak, ck, y1, hc1, hc2, hRow, -, -⟩ := mat_row (HI.out.below HB.out) hlt
    simp only [Nat.add_zero] at y0
    have hlk := HL.out k hlt
    have hbk := HBE.out k
    have HFST := hide (fun h : B k ≠ 0 => (badE_at HZ.out h n hlt).symm.trans HE.out)
    have HSU := hide (badE_succ (g := B) HZ.out)
    replace HSZ := hide (HSZ.out k)
    have HRW := hide hRow
    have HAT := hide (fun W (h : Below wA.heap.size wA W) => (⟨bcellW h y0, bcellW h y1⟩ : _ ∧ _))
    unfold rowE at hbk
    obtain ⟨bk, hbk2⟩ : ∃ z, B k = z := ⟨_, rfl⟩
    rw [hbk2] at HFST HSU hbk
    obtain ⟨lk, hlk2⟩ : ∃ z, L k = z := ⟨_, rfl⟩
    obtain ⟨l0, hl0⟩ : ∃ z, L 0 = z := ⟨_, rfl⟩
    obtain ⟨G, hG⟩ : ∃ z, F k = z := ⟨_, rfl⟩
    rw [hlk2] at hbk hlk hc1
    simp only [hlk2] at y1 HAT HRW
    rw [hl0] at hbk
    simp only [hl0] at HAT y0
    rw [hG] at hbk HSZ HRW
    clear hRow hbk2 HBE HI HL hc0 hlk2 hl0 hG HZ
    by_cases hz : lk = 0
    case pos =>
      rw [if_pos (.inl hz)] at hbk
      have tz : ((lk : Int) == 0) = true := by simp; omega
      have hne : bk ≠ 0 := by rw [hbk]; decide
      obtain rfl : E = 10 := (HFST.out hne).symm.trans hbk
      clear hz
      go_wp2_with fail
      go_quiet (fail)
      go_wp2_with fail
      go_ret
      exact ⟨rfl, Go.below_drewN HB.out _⟩
    have tz : ((lk : Int) == 0) = false := by simp; omega
    by_cases hq : (lk : Int) = (l0 : Int)
    case neg =>
      rw [if_pos (.inr hq)] at hbk
      have tq : ((lk : Int) != (l0 : Int)) = true := by simpa using hq
      have hne : bk ≠ 0 := by rw [hbk]; decide
      obtain rfl : E = 10 := (HFST.out hne).symm.trans hbk
      clear hz
      go_wp2_with fail
      go_quiet (fail)
      go_wp2_with fail
      go_ret
      exact ⟨rfl, Go.below_drewN HB.out _⟩
    rw [if_neg (by omega)] at hbk
    have tq : ((lk : Int) != (l0 : Int)) = false := by simpa using hq
    clear hq hz
    go_wp2_with fail
    go_quiet (fail)
    obtain ⟨wB, hwB⟩ : ∃ z, wA.drewN nq = z := ⟨_, rfl⟩
    rw [hwB]
    have hab : Below wA.heap.size wA wB := by rw [← hwB]; exact Go.below_drewN (Below.refl _ _) _
    clear hwB y0 y1
    obtain ⟨y0, y1⟩ := HAT.out _ hab
    have HB2 := hide (HB.out.trans (hab.mono HB.out.size))
    have HAB := hide hab
    clear hab
    by_cases h4 : 4 < lk
    case pos =>
      rw [if_pos h4] at hbk
      have t4 : (4 : Int) < (lk : Int) := by omega
      have hne : bk ≠ 0 := by rw [hbk]; decide
      obtain rfl : E = 8 := (HFST.out hne).symm.trans hbk
      clear HAT HAB HRW HSZ
      go_wp2_with fail
      go_ret
      exact ⟨rfl, HB2.out⟩
    rw [if_neg h4] at hbk
    have t4 : ¬ (4 : Int) < (lk : Int) := by omega
    have HBK := hide hbk
    clear hbk
    go_wp2_with fail
    go_loopw [4] (fun i wr => ∃ q : Nat, q ≤ lk ∧ i = .int .i64 (q : Int) ∧ Hid (∀ j, j < q → (G j).isIn 1000 = true) ∧ Hid (Below wA.heap.size wA wr)) (fun i _ => lk - (Go.RowKit.intOf i).toNat)
    case atStart => exact ⟨0, Nat.zero_le _, rfl, hide (fun j hj => absurd hj (Nat.not_lt_zero j)), HAB⟩
    case round =>
      obtain ⟨q, hq, rfl, HZ, HC⟩ := hrel
      obtain ⟨wC, rfl⟩ : ∃ x : World, x = wr := ⟨_, rfl⟩
      clear y0 y1 HAB
      obtain ⟨y0, y1⟩ := HAT.out _ HC.out
      clear y0
      have HB3 := hide (HB.out.trans (HC.out.mono HB.out.size))
      by_cases hlq : q < lk
      case neg =>
        obtain rfl : lk = q := by omega
        have hlqz : ¬ (lk : Int) < (lk : Int) := by omega
        have hb0 : bk = 0 := by rw [HBK.out, insideB_iff.2 (fun j hj => Gau.isIn_iff.1 (HZ.out j hj))]; rfl
        have HSU2 := hide (HSU.out.trans hb0)
        clear HBK HFST HSU HSZ HRW HAT
        go_wp2_with fail
        go_roundw
        case rel => exact ⟨k + 1, by omega, by go_num, HSU2, HB3⟩
        case measure => simp [Go.RowKit.intOf]; omega
      have hlqz : (q : Int) < (lk : Int) := by omega
      obtain ⟨b2, o2, rfl, -, hb2, d0, d1⟩ := (HRW.out.below HC.out) q hlq
      have HXk := hide (HSZ.out q)
      cases hv : (G q).isIn 1000
      · rw [hv] at HXk
        have hbk : bk = 2 := by rw [HBK.out, insideB_no hlq hv]; rfl
        have hne : bk ≠ 0 := by rw [hbk]; decide
        obtain rfl : E = 2 := (HFST.out hne).symm.trans hbk
        clear HBK HFST HSU HSZ HRW HAT HZ hbk hne hv
        generalize G q = x at *
        go_wp2_with fail
        refine (HXk.out _).mono ?_
        rintro e_ w2 ⟨rfl, hb2⟩
        have HB4 := hide (HB3.out.trans (hb2.mono HB3.out.size))
        clear hb2 d0 d1
        go_wp2_with fail
        go_ret
        exact ⟨rfl, HB4.out⟩
      · rw [hv] at HXk
        have HZ2 := hide (show ∀ j, j < q + 1 → (G j).isIn 1000 = true from fun j hj => by
          by_cases e : j = q
          · rw [e]; exact hv
          · exact HZ.out j (by omega))
        clear HSZ HZ hv HBK HFST HSU HRW
        generalize G q = x at *
        go_wp2_with fail
        refine (HXk.out _).mono ?_
        rintro e_ w2 ⟨rfl, hb2⟩
        have HC2 := hide (HC.out.trans (hb2.mono HC.out.size))
        clear hb2 d0 d1 HAT y1
        go_wp2_with fail
        go_roundw
        case rel => exact ⟨q + 1, by omega, by go_num, HZ2, HC2⟩
        case measure => simp [Go.RowKit.intOf]; omega
/-- Is a part of some lists greater in size than M? -/
def largeB (M : Int) (n : Nat) (L : Nat → Nat) (F : Nat → Nat → Gau) : Bool := !(List.range n).all fun r => insideB M (L r) (F r)
theorem largeB_no {M : Int} {n : Nat} {L : Nat → Nat} {F : Nat → Nat → Gau} : largeB M n L F = false ↔ ∀ r, r < n → insideB M (L r) (F r) = true := by simp [largeB]
theorem largeB_yes {M : Int} {n r j : Nat} {L : Nat → Nat} {F : Nat → Nat → Gau} (hr : r < n) (hj : j < L r) (h : (F r j).isIn M = false) : largeB M n L F = true := by
  rw [← Bool.not_eq_false, largeB_no]
  intro hh
  have := hh r hr
  rw [insideB_no hj h] at this
  exact absurd this (by decide)
/-- At most 5 lists of at most 8 symbols? -/
def smallB (n : Nat) (L : Nat → Nat) : Bool := decide (n ≤ 5) && (List.range n).all fun i => decide (L i ≤ 8)
theorem smallB_iff {n : Nat} {L : Nat → Nat} : smallB n L = true ↔ n ≤ 5 ∧ ∀ i, i < n → L i ≤ 8 := by simp [smallB]
theorem smallB_no {n i : Nat} {L : Nat → Nat} (h : 5 < n ∨ (i < n ∧ 8 < L i)) : smallB n L = false := by
  rw [← Bool.not_eq_true, smallB_iff]
  rintro ⟨h1, h2⟩
  rcases h with h | ⟨h, h3⟩
  · omega
  · have := h2 i h; omega
end Go.Proofs.YtcdplfjegopmdaaGreat
/- Lists of lists of complex numbers of the call's own, each in a block of its own. -/
namespace Go.Proofs.YtcdplfjegopmdaaGreat
open Go.RowKit Go.Shelf
/-- A slice of n slices of the call's own, the slice i is V i with L i numbers F i; no two of all these blocks are the same. -/
def OwnPlane (w : World) (base : Nat) (v : Value) (n : Nat) (V : Nat → Value) (L : Nat → Nat) (F : Nat → Nat → Gau) : Prop :=
  w.ownsRow base 32 1 v n ((List.range n).map V) ∧ (∀ i, i < n → OwnGaus w base (V i) (L i) (F i) ∧ ((V i).ownBlock = none ∨ (V i).ownBlock ≠ v.ownBlock)) ∧
    ∀ i j, i < n → j < n → i ≠ j → (V i).ownBlock = none ∨ (V i).ownBlock ≠ (V j).ownBlock
theorem OwnGaus.kept_ {w w' : World} {row : Option Nat} {base n : Nat} {v : Value} {F : Nat → Gau} (h : OwnGaus w base v n F) (hg : w.grownBy w' row) (hne : v.ownBlock = none ∨ v.ownBlock ≠ row) : OwnGaus w' base v n F := World.ownsRow.kept h hg hne
theorem OwnGaus.blockLt {w : World} {base n k : Nat} {v : Value} {F : Nat → Gau} (h : OwnGaus w base v n F) (hk : v.ownBlock = some k) : base ≤ k ∧ k < w.heap.size := World.ownsRow.lt h k hk
section
variable {w w' : World} {base n : Nat} {v : Value} {V : Nat → Value} {L : Nat → Nat} {F : Nat → Nat → Gau}
theorem OwnPlane.nil_ (w : World) (base : Nat) (V : Nat → Value) (L : Nat → Nat) (F : Nat → Nat → Gau) : OwnPlane w base (.slice none 0 0) 0 V L F := ⟨World.ownsRow_nil _ _ _ _, fun i h => absurd h (Nat.not_lt_zero i), fun i _ h => absurd h (Nat.not_lt_zero i)⟩
theorem OwnPlane.grown {row : Option Nat} (h : OwnPlane w base v n V L F) (hg : w.grownBy w' row) (h0 : v.ownBlock = none ∨ v.ownBlock ≠ row) (h1 : ∀ i, i < n → (V i).ownBlock = none ∨ (V i).ownBlock ≠ row) : OwnPlane w' base v n V L F :=
  ⟨World.ownsRow.kept h.1 hg h0, fun i hi => ⟨(h.2.1 i hi).1.kept_ hg (h1 i hi), (h.2.1 i hi).2⟩, h.2.2⟩
theorem OwnPlane.below (h : OwnPlane w base v n V L F) (hb : Below w.heap.size w w') : OwnPlane w' base v n V L F :=
  h.grown (row := none) ⟨hb.os, hb.tape, hb.output, hb.size, fun k hk _ => hb.block k hk⟩ (by cases v.ownBlock <;> simp) (fun i _ => by cases (V i).ownBlock <;> simp)
theorem OwnPlane.alloc (h : OwnPlane w base v n V L F) (o : Obj) : OwnPlane (w.alloc o) base v n V L F := h.below ((Below.refl _ _).alloc (Nat.le_refl _) _)
theorem OwnPlane.congr {V' : Nat → Value} {L' : Nat → Nat} {F' : Nat → Nat → Gau} (h : OwnPlane w base v n V L F) (e : ∀ i, i < n → V i = V' i ∧ L i = L' i ∧ ∀ k, k < L i → F i k = F' i k) : OwnPlane w base v n V' L' F' := by
  refine ⟨?_, fun i hi => ?_, fun i j hi hj hne => ?_⟩
  · rw [← List.map_congr_left (fun j hj => (e j (List.mem_range.1 hj)).1)]
    exact h.1
  · obtain ⟨e1, e2, e3⟩ := e i hi
    rw [← e1, ← e2]
    exact ⟨(h.2.1 i hi).1.congr e3, (h.2.1 i hi).2⟩
  · rw [← (e i hi).1, ← (e j hj).1]
    exact h.2.2 i j hi hj hne
theorem OwnPlane.lt (h : OwnPlane w base v n V L F) {k : Nat} (hk : v.ownBlock = some k) : base ≤ k ∧ k < w.heap.size := World.ownsRow.lt h.1 k hk
theorem OwnPlane.at_ (h : OwnPlane w base v n V L F) {g c : Nat} (hv : v = .slice (some ⟨g, 0, none⟩) n c) {i : Nat} (hi : i < n) : w.cell? ⟨g, i, none⟩ = some (V i) := by
  have h1 := h.1
  rw [hv] at h1
  rw [World.ownsRow.cellAt h1 i (by omega)]
  simp [hi]
theorem OwnPlane.form (h : OwnPlane w base v n V L F) : ∃ A c, v = .slice A n c ∧ n ≤ c ∧ c ≤ 9223372036854775807 ∧ MatsAt w base A n L F := by
  have hm9 : maxLen ≤ 9223372036854775807 := by decide
  rcases h.1.2 with ⟨rfl, hx⟩ | ⟨g, cap, cur, rfl, hb, hg, hnc, hm, -⟩
  · have hn : n = 0 := by first | exact hx | simpa using congrArg List.length hx
    subst hn
    exact ⟨_, _, rfl, Nat.le_refl _, by decide, MatsAt.nil_⟩
  · refine ⟨_, _, rfl, hnc, by omega, fun i hi => ?_⟩
    have hc := h.at_ rfl hi
    obtain ⟨Ai, ci, e, -, hI⟩ := ownGaus_form (h.2.1 i hi).1
    have hcap := (e ▸ (h.2.1 i hi).1 : OwnGaus w base (.slice Ai (L i) ci) (L i) (F i)).cap_any
    rw [e] at hc
    exact ⟨g, 0, Ai, ci, rfl, hb, (Array.getElem?_eq_some_iff.1 hg).1, by rw [Nat.zero_add]; exact hc, hcap.1, hcap.2, hI⟩
theorem OwnPlane.mats (h : OwnPlane w base v n V L F) : OwnMats w base v n L F := by
  refine ⟨_, h.1, fun i hi => ?_⟩
  obtain ⟨Ai, ci, e, -, hI⟩ := ownGaus_form (h.2.1 i hi).1
  have hcap := (e ▸ (h.2.1 i hi).1 : OwnGaus w base (.slice Ai (L i) ci) (L i) (F i)).cap_any
  refine ⟨Ai, ci, by simp [hi, e], hcap.1, hcap.2, hI, fun b o e2 => ?_⟩
  subst e2
  have ho := (h.2.1 i hi).2
  have hbk : (V i).ownBlock = some b := by rw [e]; rfl
  rw [hbk] at ho
  rcases ho with ho | ho
  · exact absurd ho (by simp)
  · exact ⟨fun z => ho z.symm, ((h.2.1 i hi).1.blockLt hbk).2⟩
end
theorem OwnGaus.some_ {w : World} {base n : Nat} {v : Value} {F : Nat → Gau} (h : OwnGaus w base v n F) (hn : 0 < n) : ∃ g c, v = .slice (some ⟨g, 0, none⟩) n c := by
  rcases h.2 with ⟨-, hx⟩ | ⟨g, cap, cur, rfl, -⟩
  · omega
  · exact ⟨g, cap, rfl⟩
theorem OwnPlane.some_ {w : World} {base n : Nat} {v : Value} {V : Nat → Value} {L : Nat → Nat} {F : Nat → Nat → Gau} (h : OwnPlane w base v n V L F) (hn : 0 < n) : ∃ g c, v = .slice (some ⟨g, 0, none⟩) n c := by
  rcases h.1.2 with ⟨-, hx⟩ | ⟨g, cap, cur, rfl, -⟩
  · omega
  · exact ⟨g, cap, rfl⟩
def snocV (n : Nat) (V : Nat → Value) (x : Value) (i : Nat) : Value := if i < n then V i else x
set_option maxRecDepth 100000 in
theorem wpList_append_plane {ops : Array Oper} {rest : List Oper} {o : Oper} {a : Act} {Q : Exit → Act → World → Prop} (w : World) (hgd : o.guard = none) (s x : Operand)
    (ho : o.op = .call { callee := .builtin .append, args := #[s, x], argTypes := #[31, 31] })
    (base : Nat) (v : Value) (n : Nat) (V : Nat → Value) (L : Nat → Nat) (F : Nat → Nat → Gau) (hs : a.eval s = v) (hown : OwnPlane w base v n V L F)
    (g1 : Nat) (r : Value) (m : Nat) (G : Nat → Gau) (hx : a.eval x = .slice (some ⟨g1, 0, none⟩) 1 1) (hc : w.cell? ⟨g1, 0, none⟩ = some r) (hr : OwnGaus w base r m G) (hone : r.oneCell' = true)
    (ha : r.ownBlock = none ∨ r.ownBlock ≠ v.ownBlock) (hap : ∀ i, i < n → ((V i).ownBlock = none ∨ (V i).ownBlock ≠ r.ownBlock) ∧ (r.ownBlock = none ∨ r.ownBlock ≠ (V i).ownBlock)) (hn : n ≤ 1000000) (hbase : base ≤ w.heap.size)
    (h : ∀ v' w', OwnPlane w' base v' (n + 1) (snocV n V r) (snocL n L m) (snocG n F G) → Below base w w' → wpList Tryz.prog ops Q rest (a.put o.dst v') w') : wpList Tryz.prog ops Q (o :: rest) a w := by
  obtain ⟨i0, hi, hz0, hz1, hz2⟩ := info_parts matInfo
  obtain ⟨h1, h2, h3⟩ := hown
  obtain ⟨v', w', hrun, hown', hg, -, hblk⟩ := run_append_own_at (P := Tryz.prog) w base 31 o.type 32 i0 (.slice none 0 0) 1 24 Tryz.underlying31 hi hz0 hz1 hz2 rfl (by decide) v n _ h1 ⟨g1, 0, none⟩ 1 1 [r] rfl
    (fun j u hu => by
      match j, hu with
      | 0, hu =>
        simp at hu
        subst hu
        exact hc
      | j + 1, hu => simp at hu)
    (fun u hu => by
      simp at hu
      subst hu
      exact hone) (by unfold maxLen; omega) (by omega) hbase
  have hb : Below base w w' := (Below.refl _ _).grown hg hbase (fun k hk => (World.ownsRow.lt h1 k hk).1)
  have hfar : ∀ (x : Value) (m : Nat) (G : Nat → Gau), OwnGaus w base x m G → (x.ownBlock = none ∨ x.ownBlock ≠ v.ownBlock) → (x.ownBlock = none ∨ x.ownBlock ≠ v'.ownBlock) := fun x m G hx hne => by
    rcases hblk with y | y
    · rw [y]; exact hne
    · rcases hq : x.ownBlock with _ | k
      · exact .inl rfl
      · refine .inr ?_
        rw [y]
        have := (hx.blockLt hq).2
        intro z
        injection z with z
        omega
  have hlist : (List.range (n + 1)).map (snocV n V r) = (List.range n).map V ++ [r] := by
    rw [List.range_succ, List.map_append]
    congr 1
    · exact List.map_congr_left fun j hj => by unfold snocV; rw [if_pos (List.mem_range.1 hj)]
    · simp [snocV]
  refine wpList_plain hgd fun _ hK => ?_
  unfold Oper.wp execOp
  simp only [ho, resolve, invoke, builtin, Sem.run_bind, Sem.run_pure, Result.andThen_ok, List.map_toArray, List.map_cons, List.map_nil, hs, hx, hrun]
  refine hK _ _ (h v' w' ⟨by rw [hlist]; exact hown', fun i hi => ?_, fun i j hi hj hne => ?_⟩ hb)
  · unfold snocV snocL snocG
    by_cases e : i < n
    · rw [if_pos e, if_pos e, if_pos e]
      exact ⟨(h2 i e).1.kept_ hg (h2 i e).2, hfar _ _ _ (h2 i e).1 (h2 i e).2⟩
    · rw [if_neg e, if_neg e, if_neg e]
      exact ⟨hr.kept_ hg ha, hfar _ _ _ hr ha⟩
  · unfold snocV
    by_cases e : i < n
    · by_cases f : j < n
      · rw [if_pos e, if_pos f]; exact h3 i j e f hne
      · rw [if_pos e, if_neg f]; exact (hap i e).1
    · by_cases f : j < n
      · rw [if_neg e, if_pos f]; exact (hap j f).2
      · omega
/-- One number of one row changed. -/
theorem OwnPlane.put {w : World} {base n g c b d : Nat} {V : Nat → Value} {L : Nat → Nat} {F : Nat → Nat → Gau} (h : OwnPlane w base (.slice (some ⟨g, 0, none⟩) n c) n V L F) (i k : Nat) (hi : i < n) (hv : V i = .slice (some ⟨b, 0, none⟩) (L i) d) (x : Gau) (G : Nat → Nat → Gau) (hG : ∀ p q, p < n → q < L p → G p q = if p = i ∧ q = k then x else F p q) :
    OwnPlane ((w.setCell ⟨b, k * 2, none⟩ (.int .i64 x.re)).setCell ⟨b, k * 2 + 1, none⟩ (.int .i64 x.im)) base (.slice (some ⟨g, 0, none⟩) n c) n V L G := by
  have hbk : (V i).ownBlock = some b := by rw [hv]; rfl
  have hgb : ∀ (W : World) (o : Nat) (u : Value), W.grownBy (W.setCell ⟨b, o, none⟩ u) (some b) := fun W o u => ⟨rfl, rfl, rfl, by simp, fun j _ hj => heap_setCell_other W ⟨b, o, none⟩ j u (fun e => hj (by simp [e]))⟩
  have hvb : (Value.slice (some ⟨g, 0, none⟩) n c).ownBlock ≠ some b := by
    rcases (h.2.1 i hi).2 with z | z
    · rw [hbk] at z; exact absurd z (by simp)
    · rw [hbk] at z; exact fun y => z y.symm
  refine ⟨World.ownsRow.kept (World.ownsRow.kept h.1 (hgb _ _ _) (.inr hvb)) (hgb _ _ _) (.inr hvb), fun p hp => ?_, h.2.2⟩
  refine ⟨?_, (h.2.1 p hp).2⟩
  by_cases e : p = i
  · subst e
    have h0 := (h.2.1 p hp).1
    rw [hv] at h0 ⊢
    exact (h0.put k x).congr fun q hq => by
      unfold setGau
      rw [hG p q hp hq]
      by_cases e2 : q = k
      · rw [if_pos e2, if_pos ⟨rfl, e2⟩]
      · rw [if_neg e2, if_neg (fun z => e2 z.2)]
  · have hne : (V p).ownBlock = none ∨ (V p).ownBlock ≠ some b := by rw [← hbk]; exact h.2.2 p i hp hi e
    exact (((h.2.1 p hp).1.kept_ (hgb _ _ _) hne).kept_ (hgb _ _ _) hne).congr fun q hq => by
      rw [hG p q hp hq, if_neg (fun z => e z.1)]
end Go.Proofs.YtcdplfjegopmdaaGreat
/- applied of the reference. -/
namespace Go.Proofs.YtcdplfjegopmdaaGreat
open Go Go.RowKit Go.Lib
theorem MatsAt.len {w : World} {lo n m : Nat} {A : Option Addr} {L : Nat → Nat} {F : Nat → Nat → Gau} (h : MatsAt w lo A n L F) (e : ∀ i, i < n → L i = m) : MatsAt w lo A n (fun _ => m) F := fun i hi => by
  obtain ⟨b, o, Ai, ci, e1, h1, h2, h3, h4, h5, h6⟩ := h i hi
  rw [e i hi] at h3 h4 h6
  exact ⟨b, o, Ai, ci, e1, h1, h2, h3, h4, h5, h6⟩
end Go.Proofs.YtcdplfjegopmdaaGreat
/- The reference: Applied, Product. -/
namespace Go.Proofs.YtcdplfjegopmdaaGreat
open Go Go.RowKit Go.Lib
theorem MatsAt.congr {w : World} {lo n : Nat} {A : Option Addr} {L L' : Nat → Nat} {F F' : Nat → Nat → Gau} (h : MatsAt w lo A n L F) (e : ∀ i, i < n → L i = L' i ∧ ∀ k, k < L i → F i k = F' i k) : MatsAt w lo A n L' F' := fun i hi => by
  obtain ⟨b, o, Ai, ci, e1, h1, h2, h3, h4, h5, h6⟩ := h i hi
  obtain ⟨e2, e3⟩ := e i hi
  exact ⟨b, o, Ai, ci, e1, h1, h2, by rw [← e2]; exact h3, by omega, h5, by rw [← e2]; exact h6.congr e3⟩
/-- A matrix of n rows of q where E is 0, else nothing. -/
def GotMat (w : World) (E : Int) (n q : Nat) (F : Nat → Nat → Gau) (v : Value) : Prop := ∃ A N c, v = .slice A N c ∧ N = (if E = 0 then n else 0) ∧ MatsAt w 0 A N (fun _ => q) F
theorem GotMat.nothing {w : World} {E : Int} {n q : Nat} {F : Nat → Nat → Gau} (h : E ≠ 0) : GotMat w E n q F (.slice none 0 0) := ⟨none, 0, 0, rfl, (if_neg h).symm, MatsAt.nil_⟩
theorem GaveMat.got {w w' : World} {E : Int} {n q : Nat} {F : Nat → Nat → Gau} {v : Value} (h : GaveMat w w' E n q F v) : GotMat w' E n q F v := by
  by_cases e : E = 0
  · obtain ⟨g, h1, h2⟩ := h.1 e
    exact ⟨_, n, n, h1, (if_pos e).symm, h2.weak (Nat.zero_le _)⟩
  · rw [h.2 e]; exact GotMat.nothing e
theorem rowsB_large {M : Int} {n q : Nat} {F : Nat → Nat → Gau} : largeB M n (fun _ => q) F = !rowsB M n q F := rfl
theorem MatOk.eq {n m : Nat} {L : Nat → Nat} {F : Nat → Nat → Gau} (h : MatOk n m L F) : ∀ i, i < n → L i = m := h.len
end Go.Proofs.YtcdplfjegopmdaaGreat
/- Applied and Product of the code. -/
namespace Go.Proofs.YtcdplfjegopmdaaGreat
open Go Go.RowKit Go.Lib
theorem orS_zero {a b : Int} (h : orS a b = 0) : a = 0 ∧ b = 0 := by
  unfold orS at h
  by_cases e : a = 0
  · rw [if_pos e] at h; exact ⟨e, h⟩
  · rw [if_neg e] at h; exact absurd h e
/-- The error of Applied. -/
def appE (n : Nat) (L : Nat → Nat) (X : Nat → Nat → Gau) (k : Nat) (K : Nat → Nat) (Y : Nat → Nat → Gau) : Int := if orS (matE n L X) (laysE k K Y) = 0 then lpE 100000000 n (L 0) k (K 0) X Y else orS (matE n L X) (laysE k K Y)
set_option maxHeartbeats 8000000 in
set_option maxRecDepth 100000 in
theorem AppliedC_any (A C : Option Addr) (n k ca cb : Nat) (L K : Nat → Nat) (X Y : Nat → Nat → Gau) (w : World) (hn : n ≤ 100000) (hk : k ≤ 100000) (hL : ∀ i, i < n → L i ≤ 100000) (hK : ∀ i, i < k → K i ≤ 100000) (hI : MatsAt w 0 A n L X) (hJ : MatsAt w 0 C k K Y) :
    Calls Tryz.prog 24 #[.slice A n ca, .slice C k cb] w fun e w' => ∃ v, e = .returned (.tuple #[v, .int .i64 (appE n L X k K Y)]) ∧ GotMat w' (appE n L X k K Y) n (K 0) (fun r c => gsum X Y r c (L 0)) v ∧ Below w.heap.size w w' := by
  have HCM := hide (fun W h => CheckMatrix_any A n ca L X W hn hL h)
  have HLE := hide (fun W h => layersError_any C k cb K Y W hk hK h)
  have HLP := hide (fun (a ao b bo : Nat) W (h1 : matE n L X = 0) (h2 : laysE k K Y = 0) (hi : MatsAt W 0 (some ⟨a, ao, none⟩) n L X) (hj : MatsAt W 0 (some ⟨b, bo, none⟩) k K Y) => limitedProduct_any a ao b bo n (L 0) k (K 0) ca cb X Y 1000 100000000 100000000 W (matE_zero h1).n1 (matE_zero h1).n4 (matE_zero h1).m1 (matE_zero h1).m4 (by have := (laysE_zero h2).n4; omega) (laysE_zero h2).q1 (by have := (laysE_zero h2).q9; omega) (by decide) (by decide) (by decide) (by decide) (by decide) (by decide) (hi.len (matE_zero h1).len) (hj.len (laysE_zero h2).len) (fun r j hr hj => (matE_zero h1).inside r j hr hj) (fun j c hj hc => (laysE_zero h2).inside j c hj hc))
  have HE := hide (show appE n L X k K Y = if orS (matE n L X) (laysE k K Y) = 0 then lpE 100000000 n (L 0) k (K 0) X Y else orS (matE n L X) (laysE k K Y) from rfl)
  have HN1 := hide (fun h : matE n L X = 0 => (matE_zero h).n1)
  have HK1 := hide (fun h : laysE k K Y = 0 => (laysE_zero h).n1)
  obtain ⟨E, hE⟩ : ∃ z, appE n L X k K Y = z := ⟨_, rfl⟩
  obtain ⟨e1, he1⟩ : ∃ z, matE n L X = z := ⟨_, rfl⟩
  obtain ⟨e2, he2⟩ : ∃ z, laysE k K Y = z := ⟨_, rfl⟩
  obtain ⟨e3, he3⟩ : ∃ z, lpE 100000000 n (L 0) k (K 0) X Y = z := ⟨_, rfl⟩
  rw [hE, he1, he2, he3] at HE
  rw [hE]
  simp only [he1, he2, he3] at HCM HLE HLP HN1 HK1
  have HI := hide hI
  have HJ := hide hJ
  clear hE he1 he2 he3 hI hJ hL hK
  go_enter Tryz.func24, Tryz.ntmps24
  go_wp2_with fail
  refine (HCM.out _ HI.out).mono ?_
  rintro e_ w1 ⟨rfl, hb1⟩
  have HB := hide hb1
  clear hb1 HCM
  go_wp2_with fail
  refine (HLE.out _ (HJ.out.below HB.out)).mono ?_
  rintro e_ w2 ⟨rfl, hb2⟩
  replace HB := hide (HB.out.trans (hb2.mono HB.out.size))
  clear hb2 HLE
  go_wp2_with fail
  refine (orS_two e1 e2 _ _ _ (by first | exact (Box.made rfl : Box _ _ _ #[_, _]).at_ 0) (by first | exact (Box.made rfl : Box _ _ _ #[_, _]).at_ 1)).mono ?_
  rintro e_ w4 ⟨rfl, hw4⟩
  replace HB := hide (show Below w.heap.size w w4 by rw [← hw4]; exact HB.out.alloc HB.out.size _)
  clear hw4
  by_cases hor : orS e1 e2 = 0
  case neg =>
    have hEE : E = orS e1 e2 := HE.out.trans (if_neg hor)
    obtain ⟨s, hs⟩ : ∃ z, orS e1 e2 = z := ⟨_, rfl⟩
    rw [hs] at hor hEE ⊢
    subst hEE
    have HNE := hide hor
    have ts : (E != 0) = true := by simpa using hor
    clear HE HLP HN1 HK1 hs hor
    go_wp2_with fail
    go_ret2
    exact ⟨_, rfl, GotMat.nothing HNE.out, HB.out⟩
  obtain ⟨hz1, hz2⟩ := orS_zero hor
  have hEE : E = e3 := HE.out.trans (if_pos hor)
  rw [hor]
  have hn1 := HN1.out hz1
  have hk1 := HK1.out hz2
  have HIW := hide (HI.out.below HB.out)
  have HJW := hide (HJ.out.below HB.out)
  obtain ⟨a, ao, A0, c0, rfl, -, -, -, -, -, -⟩ := HIW.out 0 (by omega)
  obtain ⟨b, bo, B0, d0, rfl, -, -, -, -, -, -⟩ := HJW.out 0 (by omega)
  replace HLP := hide (HLP.out a ao b bo w4 hz1 hz2 HIW.out HJW.out)
  subst hEE
  have t0 : ((0 : Int) != 0) = false := by decide
  clear HE hz1 hz2 hor HN1 HK1 HI HJ HIW HJW
  go_wp2_with fail
  refine HLP.out.mono ?_
  rintro e_ w5 ⟨v, rfl, hv, hb5⟩
  have HV := hide hv.got
  have HB2 := hide (HB.out.trans (hb5.mono HB.out.size))
  clear hv hb5 HLP
  go_wp2_with fail
  go_ret2
  exact ⟨_, rfl, HV.out, HB2.out⟩
/-- The error of Product. -/
def prdE (n : Nat) (L : Nat → Nat) (X : Nat → Nat → Gau) (k : Nat) (K : Nat → Nat) (Y : Nat → Nat → Gau) : Int := if orS (matE n L X) (matE k K Y) = 0 then lpE 1000 n (L 0) k (K 0) X Y else orS (matE n L X) (matE k K Y)
end Go.Proofs.YtcdplfjegopmdaaGreat
