/- Lemmas: S37, S38, S39, S40. -/
import Derived.Test.YtcdplfjegopmdaaGreatBk17
import Derived.Test.YtcdplfjegopmdaaGreatBk20
set_option linter.unusedVariables false
set_option linter.unusedSimpArgs false
/- rowError, CheckMatrix, layersError of the code. -/
namespace Go.Proofs.YtcdplfjegopmdaaGreat
open Go Go.RowKit Go.Lib
/-- The error of a row of a matrix with m columns. -/
def rowE (k : Nat) (m : Int) (F : Nat → Gau) : Int := if k = 0 ∨ (k : Int) ≠ m then 10 else if 4 < k then 8 else unI (insideB 1000 k F) 2
/-- The error of a matrix. -/
def matE (n : Nat) (L : Nat → Nat) (F : Nat → Nat → Gau) : Int := if n = 0 then 10 else if 4 < n then 8 else badE (fun i => rowE (L i) (L 0) (F i)) n
/-- The error of a layer where the first one has m symbols. -/
def layE (k m : Nat) (F : Nat → Gau) : Int := if symsE k F = 0 then if k = m then 0 else 13 else symsE k F
/-- The error of layers. -/
def laysE (n : Nat) (L : Nat → Nat) (F : Nat → Nat → Gau) : Int := if n = 0 then 10 else if 4 < n then 8 else badE (fun i => layE (L i) (L 0) (F i)) n
theorem badE_all {g : Nat → Int} : ∀ {n : Nat}, badE g n = 0 → ∀ i, i < n → g i = 0
  | 0, _, i, hi => absurd hi (Nat.not_lt_zero i)
  | n + 1, h, i, hi => by
    by_cases h1 : badE g n = 0
    · rw [badE_succ h1] at h
      by_cases e : i = n
      · rw [e]; exact h
      · exact badE_all h1 i (by omega)
    · unfold badE at h
      rw [if_neg h1] at h
      exact absurd h h1
theorem rowE_zero {k : Nat} {m : Int} {F : Nat → Gau} (h : rowE k m F = 0) : 0 < k ∧ (k : Int) = m ∧ k ≤ 4 ∧ ∀ j, j < k → (F j).Within 1000 := by
  unfold rowE at h
  by_cases h0 : k = 0 ∨ (k : Int) ≠ m
  · rw [if_pos h0] at h; exact absurd h (by decide)
  · rw [if_neg h0] at h
    by_cases h1 : 4 < k
    · rw [if_pos h1] at h; exact absurd h (by decide)
    · rw [if_neg h1] at h
      refine ⟨by omega, by omega, by omega, insideB_iff.1 ?_⟩
      unfold unI at h
      by_cases hb : insideB 1000 k F = true
      · exact hb
      · rw [if_neg hb] at h; exact absurd h (by decide)
/-- A matrix that is right. -/
structure MatOk (n m : Nat) (L : Nat → Nat) (F : Nat → Nat → Gau) : Prop where
  n1 : 1 ≤ n
  n4 : n ≤ 4
  m1 : 1 ≤ m
  m4 : m ≤ 4
  len : ∀ i, i < n → L i = m
  inside : ∀ i j, i < n → j < m → (F i j).Within 1000
theorem matE_zero {n : Nat} {L : Nat → Nat} {F : Nat → Nat → Gau} (h : matE n L F = 0) : MatOk n (L 0) L F := by
  unfold matE at h
  by_cases h0 : n = 0
  · rw [if_pos h0] at h; exact absurd h (by decide)
  rw [if_neg h0] at h
  by_cases h1 : 4 < n
  · rw [if_pos h1] at h; exact absurd h (by decide)
  rw [if_neg h1] at h
  have hr := fun i hi => rowE_zero (badE_all h i hi)
  have r0 := hr 0 (by omega)
  exact ⟨by omega, by omega, r0.1, r0.2.2.1, fun i hi => by have := (hr i hi).2.1; omega, fun i j hi hj => (hr i hi).2.2.2 j (by have := (hr i hi).2.1; omega)⟩
/-- Layers that are right. -/
structure LayOk (n q : Nat) (L : Nat → Nat) (F : Nat → Nat → Gau) : Prop where
  n1 : 1 ≤ n
  n4 : n ≤ 4
  q1 : 1 ≤ q
  q9 : q ≤ 200
  len : ∀ i, i < n → L i = q
  inside : ∀ i j, i < n → j < q → (F i j).Within 100000000
theorem layE_zero {k m : Nat} {F : Nat → Gau} (h : layE k m F = 0) : symsE k F = 0 ∧ k = m := by
  unfold layE at h
  by_cases h0 : symsE k F = 0
  · rw [if_pos h0] at h
    by_cases h1 : k = m
    · exact ⟨h0, h1⟩
    · rw [if_neg h1] at h; exact absurd h (by decide)
  · rw [if_neg h0] at h; exact absurd h h0
theorem laysE_zero {n : Nat} {L : Nat → Nat} {F : Nat → Nat → Gau} (h : laysE n L F = 0) : LayOk n (L 0) L F := by
  unfold laysE at h
  by_cases h0 : n = 0
  · rw [if_pos h0] at h; exact absurd h (by decide)
  rw [if_neg h0] at h
  by_cases h1 : 4 < n
  · rw [if_pos h1] at h; exact absurd h (by decide)
  rw [if_neg h1] at h
  have hr := fun i hi => layE_zero (badE_all h i hi)
  have r0 := symsE_zero (hr 0 (by omega)).1
  exact ⟨by omega, by omega, r0.1, r0.2.1, fun i hi => (hr i hi).2, fun i j hi hj => (symsE_zero (hr i hi).1).2.2 j (by have := (hr i hi).2; omega)⟩
set_option maxHeartbeats 2000000 in
theorem rowError_any (A : Option Addr) (k c : Nat) (m : Int) (F : Nat → Gau) (w : World) (hk : k ≤ 100000) (hI : GausAt w 0 A k F) :
    Calls Tryz.prog 100 #[.slice A k c, .int .i64 m] w fun e w' => e = .returned (.int .i64 (rowE k m F)) ∧ Below w.heap.size w w' := by
  obtain ⟨E, hE⟩ : ∃ z, rowE k m F = z := ⟨_, rfl⟩
  rw [hE]
  unfold rowE at hE
  by_cases h0 : k = 0
  · rw [if_pos (.inl h0)] at hE
    subst hE
    have t0 : ((k : Int) == 0) = true := by simp; omega
    clear hI h0
    go_enter Tryz.func100, Tryz.ntmps100
    go_wp2_with fail
    go_ret
    exact ⟨rfl, Below.refl _ _⟩
  have t0 : ((k : Int) == 0) = false := by simp; omega
  by_cases h1 : (k : Int) = m
  case neg =>
    rw [if_pos (.inr h1)] at hE
    subst hE
    have t1 : ((k : Int) != m) = true := by simpa using h1
    clear hI h0 h1
    go_enter Tryz.func100, Tryz.ntmps100
    go_wp2_with fail
    go_ret
    exact ⟨rfl, Below.refl _ _⟩
  have t1 : ((k : Int) != m) = false := by simpa using h1
  rw [if_neg (by omega)] at hE
  have HM := hide h1
  clear h1
  by_cases h2 : 4 < k
  · rw [if_pos h2] at hE
    subst hE
    have t2 : (4 : Int) < (k : Int) := by omega
    clear hI h0
    go_enter Tryz.func100, Tryz.ntmps100
    go_wp2_with fail
    go_ret
    exact ⟨rfl, Below.refl _ _⟩
  rw [if_neg h2] at hE
  have t2 : ¬ (4 : Int) < (k : Int) := by omega
  have HA := hide (areWithin_any A k c F 1000 w (by decide) hk hI)
  clear hI h0
  cases hb : insideB 1000 k F with
  | true =>
    rw [hb] at HA hE
    subst hE
    clear hb
    go_enter Tryz.func100, Tryz.ntmps100
    go_wp2_with (go_at_call 64; refine HA.out.mono ?_; rintro e w' ⟨rfl, hb'⟩)
    go_ret
    exact ⟨rfl, hb'⟩
  | false =>
    rw [hb] at HA hE
    subst hE
    clear hb
    go_enter Tryz.func100, Tryz.ntmps100
    go_wp2_with (go_at_call 64; refine HA.out.mono ?_; rintro e w' ⟨rfl, hb'⟩)
    go_ret
    exact ⟨rfl, hb'⟩
set_option maxHeartbeats 4000000 in
theorem CheckMatrix_any (A : Option Addr) (n c : Nat) (L : Nat → Nat) (F : Nat → Nat → Gau) (w : World) (hn : n ≤ 100000) (hL : ∀ i, i < n → L i ≤ 100000) (hI : MatsAt w 0 A n L F) :
    Calls Tryz.prog 65 #[.slice A n c] w fun e w' => e = .returned (.int .i64 (matE n L F)) ∧ Below w.heap.size w w' := by
  obtain ⟨E, hE⟩ : ∃ z, matE n L F = z := ⟨_, rfl⟩
  rw [hE]
  unfold matE at hE
  by_cases h0 : n = 0
  · rw [if_pos h0] at hE
    subst hE
    have t0 : ((n : Int) == 0) = true := by simp; omega
    clear hI h0
    go_enter Tryz.func65, Tryz.ntmps65
    go_wp2_with fail
    go_ret
    exact ⟨rfl, Below.refl _ _⟩
  have t0 : ((n : Int) == 0) = false := by simp; omega
  rw [if_neg h0] at hE
  by_cases h1 : 4 < n
  · rw [if_pos h1] at hE
    subst hE
    have t1 : (4 : Int) < (n : Int) := by omega
    clear hI h0
    go_enter Tryz.func65, Tryz.ntmps65
    go_wp2_with fail
    go_ret
    exact ⟨rfl, Below.refl _ _⟩
  rw [if_neg h1] at hE
  have t1 : ¬ (4 : Int) < (n : Int) := by omega
  have HI := hide hI
  have HL := hide hL
  have HE := hide hE
  obtain ⟨B, hB⟩ : ∃ z, (fun i => rowE (L i) (L 0) (F i)) = z := ⟨_, rfl⟩
  rw [hB] at HE
  have HBE := hide (fun i => (show B i = rowE (L i) (L 0) (F i) by rw [← hB]))
  clear hI hL hE hB
  go_enter Tryz.func65, Tryz.ntmps65
  go_wp2_with fail
  go_loopw [16] (fun i wr => ∃ k : Nat, k ≤ n ∧ i = .int .i64 (k : Int) ∧ Hid (badE B k = 0) ∧ Hid (Below w.heap.size w wr)) (fun i _ => n - (Go.RowKit.intOf i).toNat)
  case atStart => exact ⟨0, Nat.zero_le _, rfl, hide rfl, hide (Below.refl _ _)⟩
  case round =>
    obtain ⟨k, hk, rfl, HZ, HB⟩ := hrel
    obtain ⟨wA, rfl⟩ : ∃ x : World, x = wr := ⟨_, rfl⟩
    by_cases hlt : k < n
    case neg =>
      obtain rfl : n = k := by omega
      have hltz : ¬ (n : Int) < (n : Int) := by omega
      obtain rfl : E = 0 := HE.out.symm.trans HZ.out
      clear HI HL HBE
      go_wp2_with fail
      go_ret
      exact ⟨rfl, HB.out⟩
    have hltz : (k : Int) < (n : Int) := by omega
    obtain ⟨b, o, A0, c0, rfl, -, -, y0, hc0, hc09, -⟩ := (HI.out.below HB.out) 0 (by omega)
    obtain ⟨Ak, ck, y1, hc1, hc2, hRow, -, -⟩ := mat_row (HI.out.below HB.out) hlt
    simp only [Nat.add_zero] at y0
    have hlk := HL.out k hlt
    have hbk := HBE.out k
    have HFST := hide (fun h : B k ≠ 0 => (badE_at HZ.out h n hlt).symm.trans HE.out)
    have HSU := hide (badE_succ (g := B) HZ.out)
    have HRE := hide (fun W (h : Below wA.heap.size wA W) => rowError_any Ak (L k) ck (L 0) (F k) W hlk (hRow.below h))
    rw [← hbk] at HRE
    obtain ⟨bk, hbk2⟩ : ∃ z, B k = z := ⟨_, rfl⟩
    rw [hbk2] at HRE HFST HSU
    clear hbk hRow hbk2 HBE HI HL
    by_cases hz : bk = 0
    · subst hz
      go_wp2_with (go_at_call 100; refine (HRE.out _ (Below.refl _ _)).mono ?_; rintro e w2 ⟨rfl, hb2⟩)
      go_roundw
      case rel => exact ⟨k + 1, by omega, by go_num, hide HSU.out, hide (HB.out.trans (hb2.mono HB.out.size))⟩
      case measure => simp [Go.RowKit.intOf]; omega
    · have tz : (bk != 0) = true := by simpa using hz
      obtain rfl : E = bk := (HFST.out hz).symm
      go_wp2_with (go_at_call 100; refine (HRE.out _ (Below.refl _ _)).mono ?_; rintro e w2 ⟨rfl, hb2⟩)
      go_ret
      exact ⟨rfl, HB.out.trans (hb2.mono HB.out.size)⟩
set_option maxHeartbeats 4000000 in
theorem layersError_any (A : Option Addr) (n c : Nat) (L : Nat → Nat) (F : Nat → Nat → Gau) (w : World) (hn : n ≤ 100000) (hL : ∀ i, i < n → L i ≤ 100000) (hI : MatsAt w 0 A n L F) :
    Calls Tryz.prog 66 #[.slice A n c] w fun e w' => e = .returned (.int .i64 (laysE n L F)) ∧ Below w.heap.size w w' := by
  obtain ⟨E, hE⟩ : ∃ z, laysE n L F = z := ⟨_, rfl⟩
  rw [hE]
  unfold laysE at hE
  by_cases h0 : n = 0
  · rw [if_pos h0] at hE
    subst hE
    have t0 : ((n : Int) == 0) = true := by simp; omega
    clear hI h0
    go_enter Tryz.func66, Tryz.ntmps66
    go_wp2_with fail
    go_ret
    exact ⟨rfl, Below.refl _ _⟩
  have t0 : ((n : Int) == 0) = false := by simp; omega
  rw [if_neg h0] at hE
  by_cases h1 : 4 < n
  · rw [if_pos h1] at hE
    subst hE
    have t1 : (4 : Int) < (n : Int) := by omega
    clear hI h0
    go_enter Tryz.func66, Tryz.ntmps66
    go_wp2_with fail
    go_ret
    exact ⟨rfl, Below.refl _ _⟩
  rw [if_neg h1] at hE
  have t1 : ¬ (4 : Int) < (n : Int) := by omega
  have HI := hide hI
  have HL := hide hL
  have HE := hide hE
  obtain ⟨B, hB⟩ : ∃ z, (fun i => layE (L i) (L 0) (F i)) = z := ⟨_, rfl⟩
  rw [hB] at HE
  have HBE := hide (fun i => (show B i = layE (L i) (L 0) (F i) by rw [← hB]))
  clear hI hL hE hB
  go_enter Tryz.func66, Tryz.ntmps66
  go_wp2_with fail
  go_loopw [16] (fun i wr => ∃ k : Nat, k ≤ n ∧ i = .int .i64 (k : Int) ∧ Hid (badE B k = 0) ∧ Hid (Below w.heap.size w wr)) (fun i _ => n - (Go.RowKit.intOf i).toNat)
  case atStart => exact ⟨0, Nat.zero_le _, rfl, hide rfl, hide (Below.refl _ _)⟩
  case round =>
    obtain ⟨k, hk, rfl, HZ, HB⟩ := hrel
    obtain ⟨wA, rfl⟩ : ∃ x : World, x = wr := ⟨_, rfl⟩
    by_cases hlt : k < n
    case neg =>
      obtain rfl : n = k := by omega
      have hltz : ¬ (n : Int) < (n : Int) := by omega
      obtain rfl : E = 0 := HE.out.symm.trans HZ.out
      clear HI HL HBE
      go_wp2_with fail
      go_ret
      exact ⟨rfl, HB.out⟩
    have hltz : (k : Int) < (n : Int) := by omega
    obtain ⟨b, o, A0, c0, rfl, -, -, y0, hc0, hc09, -⟩ := (HI.out.below HB.out) 0 (by omega)
    obtain ⟨Ak, ck, y1, hc1, hc2, hRow, -, -⟩ := mat_row (HI.out.below HB.out) hlt
    simp only [Nat.add_zero] at y0
    have hlk := HL.out k hlt
    have hbk := HBE.out k
    have HFST := hide (fun h : B k ≠ 0 => (badE_at HZ.out h n hlt).symm.trans HE.out)
    have HSU := hide (badE_succ (g := B) HZ.out)
    have HRE := hide (fun W (h : Below wA.heap.size wA W) => symbolsError_any Ak (L k) ck (F k) W hlk (hRow.below h))
    unfold layE at hbk
    obtain ⟨s, hs⟩ : ∃ z, symsE (L k) (F k) = z := ⟨_, rfl⟩
    rw [hs] at HRE hbk
    have HY0 := hide y0
    have HAT := hide (fun W (h : Below wA.heap.size wA W) => bcellW h y0)
    obtain ⟨bk, hbk2⟩ : ∃ z, B k = z := ⟨_, rfl⟩
    rw [hbk2] at HFST HSU hbk
    obtain ⟨lk, hlk2⟩ : ∃ z, L k = z := ⟨_, rfl⟩
    obtain ⟨l0, hl0⟩ : ∃ z, L 0 = z := ⟨_, rfl⟩
    rw [hlk2] at hbk hlk
    simp only [hlk2] at HRE y1
    rw [hl0] at hbk
    simp only [hl0] at HAT HY0 y0
    clear hRow hs hbk2 HBE HI HL hc1 hc0 hlk2 hl0
    by_cases hz : s = 0
    case neg =>
      rw [if_neg hz] at hbk
      have tz : (s != 0) = true := by simpa using hz
      have hne : bk ≠ 0 := by rw [hbk]; exact hz
      obtain rfl : E = s := (HFST.out hne).symm.trans hbk
      clear y0
      go_wp2_with (go_at_call 101; refine (HRE.out _ (Below.refl _ _)).mono ?_; rintro e w2 ⟨rfl, hb2⟩)
      go_ret
      exact ⟨rfl, HB.out.trans (hb2.mono HB.out.size)⟩
    subst hz
    rw [if_pos rfl] at hbk
    clear y0
    by_cases hq : lk = l0
    · subst hq
      rw [if_pos rfl] at hbk
      subst hbk
      have tq : ((lk : Int) != (lk : Int)) = false := by simp
      go_wp2_with (go_at_call 101; refine (HRE.out _ (Below.refl _ _)).mono ?_; rintro e w2 ⟨rfl, hb2⟩; have y0 := HAT.out _ hb2)
      go_roundw
      case rel => exact ⟨k + 1, by omega, by go_num, hide HSU.out, hide (HB.out.trans (hb2.mono HB.out.size))⟩
      case measure => simp [Go.RowKit.intOf]; omega
    · rw [if_neg hq] at hbk
      subst hbk
      have tq : ((lk : Int) != (l0 : Int)) = true := by simp; omega
      obtain rfl : E = 13 := (HFST.out (by decide)).symm
      go_wp2_with (go_at_call 101; refine (HRE.out _ (Below.refl _ _)).mono ?_; rintro e w2 ⟨rfl, hb2⟩; have y0 := HAT.out _ hb2)
      go_ret
      exact ⟨rfl, HB.out.trans (hb2.mono HB.out.size)⟩
end Go.Proofs.YtcdplfjegopmdaaGreat
/- determinant and Determinant of the code. -/
namespace Go.Proofs.YtcdplfjegopmdaaGreat
open Go Go.RowKit Go.Lib Ieee
/-- The determinant of one or two rows. -/
def detG (n : Nat) (F : Nat → Nat → Gau) : Gau := if n = 1 then F 0 0 else ((F 0 0).mul (F 1 1)).less ((F 0 1).mul (F 1 0))
theorem detG_within {n m : Nat} {L : Nat → Nat} {F : Nat → Nat → Gau} (h : MatOk n m L F) (hnm : n = m) (hn : n ≤ 2) : (detG n F).Within 4000000 := by
  have h1 := h.n1
  unfold detG
  by_cases e : n = 1
  · rw [if_pos e]
    exact (h.inside 0 0 (by omega) (by omega)).more (by decide)
  · rw [if_neg e]
    have a := Gau.mul_within (h.inside 0 0 (by omega) (by omega)) (h.inside 1 1 (by omega) (by omega))
    have b := Gau.mul_within (h.inside 0 1 (by omega) (by omega)) (h.inside 1 0 (by omega) (by omega))
    exact (Gau.less_within a b).more (by decide)

set_option maxHeartbeats 4000000 in
set_option maxRecDepth 100000 in
theorem determinant_one (a ao ca n m : Nat) (F : Nat → Nat → Gau) (w : World) (hn : n = 1) (hm : 1 ≤ m) (hA : MatsAt w 0 (some ⟨a, ao, none⟩) n (fun _ => m) F) :
    Calls Tryz.prog 103 #[.slice (some ⟨a, ao, none⟩) n ca] w fun e w' => e = .returned (.agg #[.int .i64 (F 0 0).re, .int .i64 (F 0 0).im]) ∧ Below w.heap.size w w' := by
  obtain ⟨A0, c0, y0, hc1, hc2, hR, -, -⟩ := mat_row hA (i := 0) (by omega)
  obtain ⟨b0, o0, rfl, -, -⟩ := gaus_some hR (by omega)
  obtain ⟨y1, y2⟩ := gaus_at hR (i := 0) (by omega)
  simp only [Nat.add_zero, Nat.zero_mul] at y0 y1 y2
  obtain ⟨p, hp⟩ : ∃ z, (F 0 0).re = z := ⟨_, rfl⟩
  obtain ⟨q, hq⟩ : ∃ z, (F 0 0).im = z := ⟨_, rfl⟩
  rw [hp] at y1
  rw [hq] at y2
  rw [hp, hq]
  have HAT := hide (fun W (h : Below w.heap.size w W) => (⟨bcellW h y0, bcellW h y1, bcellW h y2⟩ : W.cell? ⟨a, ao, none⟩ = _ ∧ W.cell? ⟨b0, o0, none⟩ = _ ∧ W.cell? ⟨b0, o0 + 1, none⟩ = _))
  clear hp hq hR hA y0 y1 y2
  have t1 : ((n : Int) == 1) = true := by simp; omega
  have hn0 : 0 < n := by omega
  clear hn
  go_enter Tryz.func103, Tryz.ntmps103
  go_upto_region 1 with fail
  obtain ⟨w1, hw1⟩ : ∃ z : World, z = w.alloc (.cells #[.int .i64 0, .int .i64 0] 62) := ⟨_, rfl⟩
  try rw [← hw1]
  have HX := hide (show Box w1 w.heap.size 62 #[.int .i64 0, .int .i64 0] by rw [hw1]; exact Box.made rfl)
  have HB := hide (show Below w.heap.size w w1 by rw [hw1]; (repeat (first | (with_reducible exact Below.refl _ _) | (with_reducible refine Go.below_drewN ?_ _) | (with_reducible refine Below.drew ?_) | (with_reducible refine Below.alloc ?_ (by first | exact Nat.le_refl _ | (simp; done) | (simp; omega) | omega) _) | (with_reducible refine Below.setCell ?_ (by first | exact Nat.le_refl _ | (simp; done) | (simp; omega) | omega) _))))
  clear hw1
  obtain ⟨y0, y1, y2⟩ := HAT.out _ HB.out
  obtain ⟨x0, x1, f0, f1, hlx⟩ := HX.out.t2
  have HY := hide (HX.out.t2put (.int .i64 p) (.int .i64 q))
  have HB2 := hide ((HB.out.setCell (p := ⟨w.heap.size, 0, none⟩) (Nat.le_refl _) (.int .i64 p)).setCell (p := ⟨w.heap.size, 1, none⟩) (Nat.le_refl _) (.int .i64 q))
  go_wp2_with fail
  obtain ⟨z0, z1, -, -, -⟩ := HY.out.t2
  refine bodyPost_ret (v := .agg #[.int .i64 p, .int .i64 q]) ?_ rfl ⟨rfl, HB2.out⟩
  simp [results, Tryz.results103, go_sem, z0, z1]
end Go.Proofs.YtcdplfjegopmdaaGreat
/- determinant of the code, two rows. -/
namespace Go.Proofs.YtcdplfjegopmdaaGreat
open Go Go.RowKit Go.Lib Ieee
set_option maxHeartbeats 8000000 in
set_option maxRecDepth 100000 in
theorem determinant_two (a ao ca n m : Nat) (F : Nat → Nat → Gau) (w : World) (hn : n = 2) (hm : 2 ≤ m) (hA : MatsAt w 0 (some ⟨a, ao, none⟩) n (fun _ => m) F) (hF : ∀ i j, i < 2 → j < 2 → (F i j).Within 1000) :
    Calls Tryz.prog 103 #[.slice (some ⟨a, ao, none⟩) n ca] w fun e w' => e = .returned (.agg #[.int .i64 (detG 2 F).re, .int .i64 (detG 2 F).im]) ∧ Below w.heap.size w w' := by
  obtain ⟨A0, c0, r0, hc0, -, hR0, -, -⟩ := mat_row hA (i := 0) (by omega)
  obtain ⟨b0, o0, rfl, -, -⟩ := gaus_some hR0 (by omega)
  obtain ⟨y00, z00⟩ := gaus_at hR0 (i := 0) (by omega)
  obtain ⟨y01, z01⟩ := gaus_at hR0 (i := 1) (by omega)
  obtain ⟨A1, c1, r1, hc1, -, hR1, -, -⟩ := mat_row hA (i := 1) (by omega)
  obtain ⟨b1, o1, rfl, -, -⟩ := gaus_some hR1 (by omega)
  obtain ⟨y10, z10⟩ := gaus_at hR1 (i := 0) (by omega)
  obtain ⟨y11, z11⟩ := gaus_at hR1 (i := 1) (by omega)
  simp only [Nat.add_zero, Nat.zero_mul, Nat.one_mul] at r0 r1 y00 z00 y01 z01 y10 z10 y11 z11
  have n00 := hF 0 0 (by decide) (by decide)
  have n01 := hF 0 1 (by decide) (by decide)
  have n10 := hF 1 0 (by decide) (by decide)
  have n11 := hF 1 1 (by decide) (by decide)
  have HD := hide (show detG 2 F = ((F 0 0).mul (F 1 1)).less ((F 0 1).mul (F 1 0)) from rfl)
  obtain ⟨x00, hx00⟩ : ∃ z, F 0 0 = z := ⟨_, rfl⟩
  rw [hx00] at y00 z00 n00 HD
  obtain ⟨x01, hx01⟩ : ∃ z, F 0 1 = z := ⟨_, rfl⟩
  rw [hx01] at y01 z01 n01 HD
  obtain ⟨x10, hx10⟩ : ∃ z, F 1 0 = z := ⟨_, rfl⟩
  rw [hx10] at y10 z10 n10 HD
  obtain ⟨x11, hx11⟩ : ∃ z, F 1 1 = z := ⟨_, rfl⟩
  rw [hx11] at y11 z11 n11 HD
  have w1 := Gau.mul_within n00 n11
  have w2 := Gau.mul_within n01 n10
  have w3 := (Gau.less_within w1 w2).more (N := 9007199254740991) (by decide)
  obtain ⟨u1, t1, hm1, hc1c⟩ := cpx_mul (cpx_of n00 (by decide)) (cpx_of n11 (by decide)) n00 n11 (by decide)
  obtain ⟨u2, t2, hm2, hc2c⟩ := cpx_mul (cpx_of n01 (by decide)) (cpx_of n10 (by decide)) n01 n10 (by decide)
  obtain ⟨u3, t3, hm3, hc3c⟩ := cpx_less hc1c hc2c w3 (by decide)
  rw [← HD.out] at w3 hc3c
  clear HD w1 w2 n00 n01 n10 n11
  have HM1 := hide (fun W => run_complex_mul (P := Tryz.prog) W 123 _ _ _ _ _ _ hm1)
  have HM2 := hide (fun W => run_complex_mul (P := Tryz.prog) W 123 _ _ _ _ _ _ hm2)
  have HM3 := hide (fun W => run_complex_sum (P := Tryz.prog) W .sub (.inr rfl) 123 .f64 _ _ _ _ _ _ hm3)
  have HAG := hide (fun W => asGauss_any u3 t3 (detG 2 F) W hc3c w3)
  obtain ⟨d, hd⟩ : ∃ z, detG 2 F = z := ⟨_, rfl⟩
  rw [hd] at HAG
  rw [hd]
  obtain ⟨p00, hp00⟩ : ∃ z, x00.re = z := ⟨_, rfl⟩
  obtain ⟨q00, hq00⟩ : ∃ z, x00.im = z := ⟨_, rfl⟩
  simp only [hp00, hq00] at y00 z00 HM1 HM2
  clear hp00 hq00 hx00
  obtain ⟨p01, hp01⟩ : ∃ z, x01.re = z := ⟨_, rfl⟩
  obtain ⟨q01, hq01⟩ : ∃ z, x01.im = z := ⟨_, rfl⟩
  simp only [hp01, hq01] at y01 z01 HM1 HM2
  clear hp01 hq01 hx01
  obtain ⟨p10, hp10⟩ : ∃ z, x10.re = z := ⟨_, rfl⟩
  obtain ⟨q10, hq10⟩ : ∃ z, x10.im = z := ⟨_, rfl⟩
  simp only [hp10, hq10] at y10 z10 HM1 HM2
  clear hp10 hq10 hx10
  obtain ⟨p11, hp11⟩ : ∃ z, x11.re = z := ⟨_, rfl⟩
  obtain ⟨q11, hq11⟩ : ∃ z, x11.im = z := ⟨_, rfl⟩
  simp only [hp11, hq11] at y11 z11 HM1 HM2
  clear hp11 hq11 hx11
  clear hd w3 hm1 hm2 hm3 hc1c hc2c hc3c
  have HAT := hide (fun W (h : Below w.heap.size w W) => (⟨bcellW h r0, bcellW h r1, bcellW h y00, bcellW h z00, bcellW h y01, bcellW h z01, bcellW h y10, bcellW h z10, bcellW h y11, bcellW h z11⟩ : W.cell? ⟨a, ao, none⟩ = some (.slice (some ⟨b0, o0, none⟩) m c0) ∧ W.cell? ⟨a, ao + 1, none⟩ = some (.slice (some ⟨b1, o1, none⟩) m c1) ∧ W.cell? ⟨b0, o0, none⟩ = some (.int .i64 p00) ∧ W.cell? ⟨b0, o0 + 1, none⟩ = some (.int .i64 q00) ∧ W.cell? ⟨b0, o0 + 2, none⟩ = some (.int .i64 p01) ∧ W.cell? ⟨b0, o0 + 2 + 1, none⟩ = some (.int .i64 q01) ∧ W.cell? ⟨b1, o1, none⟩ = some (.int .i64 p10) ∧ W.cell? ⟨b1, o1 + 1, none⟩ = some (.int .i64 q10) ∧ W.cell? ⟨b1, o1 + 2, none⟩ = some (.int .i64 p11) ∧ W.cell? ⟨b1, o1 + 2 + 1, none⟩ = some (.int .i64 q11)))
  clear r0 r1 y00 z00 y01 z01 y10 z10 y11 z11 hA hF hR0 hR1
  have tn1 : ((n : Int) == 1) = false := by simp; omega
  have hn1 : 1 < n := by omega
  have hn0 : 0 < n := by omega
  have hm0 : 0 < m := by omega
  have hm1 : 1 < m := by omega
  have hm1z : (1 : Int) < (m : Int) := by omega
  have hn1z : (1 : Int) < (n : Int) := by omega
  clear hn
  go_enter Tryz.func103, Tryz.ntmps103
  go_upto_region 1 with fail
  obtain ⟨w1, hw1⟩ : ∃ z : World, z = w.alloc (.cells #[.int .i64 0, .int .i64 0] 62) := ⟨_, rfl⟩
  try rw [← hw1]
  obtain ⟨b2, hb2⟩ : ∃ z, w.heap.size = z := ⟨_, rfl⟩
  have HX := hide (show Box w1 b2 62 #[.int .i64 0, .int .i64 0] by rw [hw1]; exact Box.made hb2.symm)
  have HB := hide (show Below b2 w w1 by rw [hw1, ← hb2]; (repeat (first | (with_reducible exact Below.refl _ _) | (with_reducible refine Go.below_drewN ?_ _) | (with_reducible refine Below.drew ?_) | (with_reducible refine Below.alloc ?_ (by first | exact Nat.le_refl _ | (simp; done) | (simp; omega) | omega) _) | (with_reducible refine Below.setCell ?_ (by first | exact Nat.le_refl _ | (simp; done) | (simp; omega) | omega) _))))
  simp only [hb2] at HAT ⊢
  clear hw1
  go_wp2_with fail
  refine wp_region_held_drew (S := fun w' => w'.cell? ⟨a, ao, none⟩ = some (.slice (some ⟨b0, o0, none⟩) m c0) ∧ w'.cell? ⟨a, ao + 1, none⟩ = some (.slice (some ⟨b1, o1, none⟩) m c1) ∧ w'.cell? ⟨b0, o0, none⟩ = some (.int .i64 p00) ∧ w'.cell? ⟨b0, o0 + 1, none⟩ = some (.int .i64 q00) ∧ w'.cell? ⟨b0, o0 + 2, none⟩ = some (.int .i64 p01) ∧ w'.cell? ⟨b0, o0 + 2 + 1, none⟩ = some (.int .i64 q01) ∧ w'.cell? ⟨b1, o1, none⟩ = some (.int .i64 p10) ∧ w'.cell? ⟨b1, o1 + 1, none⟩ = some (.int .i64 q10) ∧ w'.cell? ⟨b1, o1 + 2, none⟩ = some (.int .i64 p11) ∧ w'.cell? ⟨b1, o1 + 2 + 1, none⟩ = some (.int .i64 q11)) (by kernel_rfl) (HAT.out _ HB.out.drew) (fun hHeld => ?_)
  obtain ⟨w_1, hw_1⟩ : ∃ q : World, q = w1.drew := ⟨_, rfl⟩
  rw [← hw_1] at hHeld ⊢
  have hc_1 : Below w1.heap.size w1 w_1 := by rw [hw_1]; exact (Below.refl _ _).drew
  clear hw_1
  replace HX := hide (HX.out.below hc_1)
  replace HB := hide (HB.out.trans (hc_1.mono (by have := HB.out.size; omega)))
  clear hc_1
  refine wpAnyH_take (i := 0) (oi := ⟨some 11, _, _, _, _, _⟩) (v := ?_) rfl (by kernel_rfl) (by kernel_rfl) (by kernel_rfl) (fun _ _ _ h => h) (Or.inl ⟨by rfl, ?_⟩) (by assumption) ?_
  rotate_left
  · (intro w' hSw; (try dsimp only at hSw); go_simp <;> (with_reducible rfl))
  try simp only [Act.put, List.setIfInBounds_toArray, List.set_cons_zero, List.set_cons_succ]
  refine wpAnyH_take (i := 1) (oi := ⟨some 12, _, _, _, _, _⟩) (v := ?_) rfl (by kernel_rfl) (by kernel_rfl) (by kernel_rfl) (fun _ _ _ h => h) (Or.inl ⟨by rfl, ?_⟩) (by assumption) ?_
  rotate_left
  · (intro w' hSw; (try dsimp only at hSw); go_simp <;> (with_reducible rfl))
  try simp only [Act.put, List.setIfInBounds_toArray, List.set_cons_zero, List.set_cons_succ]
  refine wpAnyH_take (i := 2) (oi := ⟨some 13, _, _, _, _, _⟩) (v := ?_) rfl (by kernel_rfl) (by kernel_rfl) (by kernel_rfl) (fun _ _ _ h => h) (Or.inl ⟨by rfl, ?_⟩) (by assumption) ?_
  rotate_left
  · (intro w' hSw; (try dsimp only at hSw); go_simp <;> (with_reducible rfl))
  try simp only [Act.put, List.setIfInBounds_toArray, List.set_cons_zero, List.set_cons_succ]
  refine wpAnyH_take (i := 3) (oi := ⟨some 14, _, _, _, _, _⟩) (v := ?_) rfl (by kernel_rfl) (by kernel_rfl) (by kernel_rfl) (fun _ _ _ h => h) (Or.inl ⟨by rfl, ?_⟩) (by assumption) ?_
  rotate_left
  · (intro w' hSw; (try dsimp only at hSw); go_simp <;> (with_reducible rfl))
  try simp only [Act.put, List.setIfInBounds_toArray, List.set_cons_zero, List.set_cons_succ]
  refine wpAnyH_take (i := 4) (oi := ⟨some 15, _, _, _, _, _⟩) (v := ?_) rfl (by kernel_rfl) (by kernel_rfl) (by kernel_rfl) (fun _ _ _ h => h) (Or.inl ⟨by rfl, ?_⟩) (by assumption) ?_
  rotate_left
  · (intro w' hSw; (try dsimp only at hSw); go_simp <;> (with_reducible rfl))
  try simp only [Act.put, List.setIfInBounds_toArray, List.set_cons_zero, List.set_cons_succ]
  refine wpAnyH_take (i := 6) (oi := ⟨some 17, _, _, _, _, _⟩) (v := ?_) rfl (by kernel_rfl) (by kernel_rfl) (by kernel_rfl) (fun _ _ _ h => h) (Or.inl ⟨by rfl, ?_⟩) (by assumption) ?_
  rotate_left
  · (intro w' hSw; (try dsimp only at hSw); go_simp <;> (with_reducible rfl))
  try simp only [Act.put, List.setIfInBounds_toArray, List.set_cons_zero, List.set_cons_succ]
  refine wpAnyH_take (i := 7) (oi := ⟨some 18, _, _, _, _, _⟩) (v := ?_) rfl (by kernel_rfl) (by kernel_rfl) (by kernel_rfl) (fun _ _ _ h => h) (Or.inl ⟨by rfl, ?_⟩) (by assumption) ?_
  rotate_left
  · (intro w' hSw; (try dsimp only at hSw); go_simp <;> (with_reducible rfl))
  try simp only [Act.put, List.setIfInBounds_toArray, List.set_cons_zero, List.set_cons_succ]
  refine wpAnyH_take (i := 8) (oi := ⟨some 19, _, _, _, _, _⟩) (v := ?_) rfl (by kernel_rfl) (by kernel_rfl) (by kernel_rfl) (fun _ _ _ h => h) (Or.inl ⟨by rfl, ?_⟩) (by assumption) ?_
  rotate_left
  · (intro w' hSw; (try dsimp only at hSw); go_simp <;> (with_reducible rfl))
  try simp only [Act.put, List.setIfInBounds_toArray, List.set_cons_zero, List.set_cons_succ]
  refine wpAnyH_take (i := 9) (oi := ⟨some 20, _, _, _, _, _⟩) (v := ?_) rfl (by kernel_rfl) (by kernel_rfl) (by kernel_rfl) (fun _ _ _ h => h) (Or.inl ⟨by rfl, ?_⟩) (by assumption) ?_
  rotate_left
  · (intro w' hSw; (try dsimp only at hSw); go_simp <;> (with_reducible rfl))
  try simp only [Act.put, List.setIfInBounds_toArray, List.set_cons_zero, List.set_cons_succ]
  refine wpAnyH_take (i := 10) (oi := ⟨some 21, _, _, _, _, _⟩) (v := ?_) rfl (by kernel_rfl) (by kernel_rfl) (by kernel_rfl) (fun _ _ _ h => h) (Or.inl ⟨by rfl, ?_⟩) (by assumption) ?_
  rotate_left
  · (intro w' hSw; (try dsimp only at hSw); go_simp <;> (with_reducible rfl))
  try simp only [Act.put, List.setIfInBounds_toArray, List.set_cons_zero, List.set_cons_succ]
  refine wpAnyH_take (i := 13) (oi := ⟨some 24, _, _, _, _, _⟩) (v := ?_) rfl (by kernel_rfl) (by kernel_rfl) (by kernel_rfl) (fun _ _ _ h => h) (Or.inl ⟨by rfl, ?_⟩) (by assumption) ?_
  rotate_left
  · (intro w' hSw; (try dsimp only at hSw); go_simp <;> (with_reducible rfl))
  try simp only [Act.put, List.setIfInBounds_toArray, List.set_cons_zero, List.set_cons_succ]
  refine wpAnyH_take (i := 14) (oi := ⟨some 25, _, _, _, _, _⟩) (v := ?_) rfl (by kernel_rfl) (by kernel_rfl) (by kernel_rfl) (fun _ _ _ h => h) (Or.inl ⟨by rfl, ?_⟩) (by assumption) ?_
  rotate_left
  · (intro w' hSw; (try dsimp only at hSw); go_simp <;> (with_reducible rfl))
  try simp only [Act.put, List.setIfInBounds_toArray, List.set_cons_zero, List.set_cons_succ]
  refine wpAnyH_take (i := 15) (oi := ⟨some 26, _, _, _, _, _⟩) (v := ?_) rfl (by kernel_rfl) (by kernel_rfl) (by kernel_rfl) (fun _ _ _ h => h) (Or.inl ⟨by rfl, ?_⟩) (by assumption) ?_
  rotate_left
  · (intro w' hSw; (try dsimp only at hSw); go_simp <;> (with_reducible rfl))
  try simp only [Act.put, List.setIfInBounds_toArray, List.set_cons_zero, List.set_cons_succ]
  refine wpAnyH_take (i := 16) (oi := ⟨some 27, _, _, _, _, _⟩) (v := ?_) rfl (by kernel_rfl) (by kernel_rfl) (by kernel_rfl) (fun _ _ _ h => h) (Or.inl ⟨by rfl, ?_⟩) (by assumption) ?_
  rotate_left
  · (intro w' hSw; (try dsimp only at hSw); go_simp <;> (with_reducible rfl))
  try simp only [Act.put, List.setIfInBounds_toArray, List.set_cons_zero, List.set_cons_succ]
  refine wpAnyH_take (i := 17) (oi := ⟨some 28, _, _, _, _, _⟩) (v := ?_) rfl (by kernel_rfl) (by kernel_rfl) (by kernel_rfl) (fun _ _ _ h => h) (Or.inl ⟨by rfl, ?_⟩) (by assumption) ?_
  rotate_left
  · (intro w' hSw; (try dsimp only at hSw); go_simp <;> (with_reducible rfl))
  try simp only [Act.put, List.setIfInBounds_toArray, List.set_cons_zero, List.set_cons_succ]
  refine wpAnyH_take (i := 19) (oi := ⟨some 30, _, _, _, _, _⟩) (v := ?_) rfl (by kernel_rfl) (by kernel_rfl) (by kernel_rfl) (fun _ _ _ h => h) (Or.inl ⟨by rfl, ?_⟩) (by assumption) ?_
  rotate_left
  · (intro w' hSw; (try dsimp only at hSw); go_simp <;> (with_reducible rfl))
  try simp only [Act.put, List.setIfInBounds_toArray, List.set_cons_zero, List.set_cons_succ]
  refine wpAnyH_take (i := 20) (oi := ⟨some 31, _, _, _, _, _⟩) (v := ?_) rfl (by kernel_rfl) (by kernel_rfl) (by kernel_rfl) (fun _ _ _ h => h) (Or.inl ⟨by rfl, ?_⟩) (by assumption) ?_
  rotate_left
  · (intro w' hSw; (try dsimp only at hSw); go_simp <;> (with_reducible rfl))
  try simp only [Act.put, List.setIfInBounds_toArray, List.set_cons_zero, List.set_cons_succ]
  refine wpAnyH_take (i := 21) (oi := ⟨some 32, _, _, _, _, _⟩) (v := ?_) rfl (by kernel_rfl) (by kernel_rfl) (by kernel_rfl) (fun _ _ _ h => h) (Or.inl ⟨by rfl, ?_⟩) (by assumption) ?_
  rotate_left
  · (intro w' hSw; (try dsimp only at hSw); go_simp <;> (with_reducible rfl))
  try simp only [Act.put, List.setIfInBounds_toArray, List.set_cons_zero, List.set_cons_succ]
  refine wpAnyH_take (i := 22) (oi := ⟨some 33, _, _, _, _, _⟩) (v := ?_) rfl (by kernel_rfl) (by kernel_rfl) (by kernel_rfl) (fun _ _ _ h => h) (Or.inl ⟨by rfl, ?_⟩) (by assumption) ?_
  rotate_left
  · (intro w' hSw; (try dsimp only at hSw); go_simp <;> (with_reducible rfl))
  try simp only [Act.put, List.setIfInBounds_toArray, List.set_cons_zero, List.set_cons_succ]
  refine wpAnyH_take (i := 23) (oi := ⟨some 34, _, _, _, _, _⟩) (v := ?_) rfl (by kernel_rfl) (by kernel_rfl) (by kernel_rfl) (fun _ _ _ h => h) (Or.inl ⟨by rfl, ?_⟩) (by assumption) ?_
  rotate_left
  · (intro w' hSw; (try dsimp only at hSw); go_simp <;> (with_reducible rfl))
  try simp only [Act.put, List.setIfInBounds_toArray, List.set_cons_zero, List.set_cons_succ]
  refine wpAnyH_ready (rs := [5]) (by kernel_rfl) (by simp) ?_
  refine AllReadyH.cons (o := ⟨some 16, _, _, _, _, _⟩) rfl (fun K' hK => ?_) AllReadyH.nil
  go_simp
  go_at_call 104
  refine (asComplexS_any _ _ _).mono ?_
  rintro e_ w_2 ⟨rfl, hb_2⟩
  replace HX := hide (HX.out.below hb_2)
  replace HB := hide (HB.out.trans (hb_2.mono (by have := HB.out.size; omega)))
  clear hb_2
  go_wp2_with fail
  refine hK.out _ _ (HAT.out _ HB.out) (fun hHeld => ?_)
  clear hK K'
  try simp only [Act.put, List.setIfInBounds_toArray, List.set_cons_zero, List.set_cons_succ]
  refine wpAnyH_ready (rs := [11]) (by kernel_rfl) (by simp) ?_
  refine AllReadyH.cons (o := ⟨some 22, _, _, _, _, _⟩) rfl (fun K' hK => ?_) AllReadyH.nil
  go_simp
  go_at_call 104
  refine (asComplexS_any _ _ _).mono ?_
  rintro e_ w_3 ⟨rfl, hb_3⟩
  replace HX := hide (HX.out.below hb_3)
  replace HB := hide (HB.out.trans (hb_3.mono (by have := HB.out.size; omega)))
  clear hb_3
  go_wp2_with fail
  refine hK.out _ _ (HAT.out _ HB.out) (fun hHeld => ?_)
  clear hK K'
  try simp only [Act.put, List.setIfInBounds_toArray, List.set_cons_zero, List.set_cons_succ]
  refine wpAnyH_take (i := 12) (oi := ⟨some 23, _, _, _, _, _⟩) (v := (.complex .f64 u1 t1)) rfl (by kernel_rfl) (by kernel_rfl) (by kernel_rfl) (fun _ _ _ h => h) (Or.inl ⟨by rfl, fun w' hSw => by go_simp; simp [HM1.out]⟩) (by assumption) ?_
  try simp only [Act.put, List.setIfInBounds_toArray, List.set_cons_zero, List.set_cons_succ]
  refine wpAnyH_ready (rs := [18]) (by kernel_rfl) (by simp) ?_
  refine AllReadyH.cons (o := ⟨some 29, _, _, _, _, _⟩) rfl (fun K' hK => ?_) AllReadyH.nil
  go_simp
  go_at_call 104
  refine (asComplexS_any _ _ _).mono ?_
  rintro e_ w_4 ⟨rfl, hb_4⟩
  replace HX := hide (HX.out.below hb_4)
  replace HB := hide (HB.out.trans (hb_4.mono (by have := HB.out.size; omega)))
  clear hb_4
  go_wp2_with fail
  refine hK.out _ _ (HAT.out _ HB.out) (fun hHeld => ?_)
  clear hK K'
  try simp only [Act.put, List.setIfInBounds_toArray, List.set_cons_zero, List.set_cons_succ]
  refine wpAnyH_ready (rs := [24]) (by kernel_rfl) (by simp) ?_
  refine AllReadyH.cons (o := ⟨some 35, _, _, _, _, _⟩) rfl (fun K' hK => ?_) AllReadyH.nil
  go_simp
  go_at_call 104
  refine (asComplexS_any _ _ _).mono ?_
  rintro e_ w_5 ⟨rfl, hb_5⟩
  replace HX := hide (HX.out.below hb_5)
  replace HB := hide (HB.out.trans (hb_5.mono (by have := HB.out.size; omega)))
  clear hb_5
  go_wp2_with fail
  refine hK.out _ _ (HAT.out _ HB.out) (fun hHeld => ?_)
  clear hK K'
  try simp only [Act.put, List.setIfInBounds_toArray, List.set_cons_zero, List.set_cons_succ]
  refine wpAnyH_take (i := 25) (oi := ⟨some 36, _, _, _, _, _⟩) (v := (.complex .f64 u2 t2)) rfl (by kernel_rfl) (by kernel_rfl) (by kernel_rfl) (fun _ _ _ h => h) (Or.inl ⟨by rfl, fun w' hSw => by go_simp; simp [HM2.out]⟩) (by assumption) ?_
  try simp only [Act.put, List.setIfInBounds_toArray, List.set_cons_zero, List.set_cons_succ]
  refine wpAnyH_take (i := 26) (oi := ⟨some 37, _, _, _, _, _⟩) (v := (.complex .f64 u3 t3)) rfl (by kernel_rfl) (by kernel_rfl) (by kernel_rfl) (fun _ _ _ h => h) (Or.inl ⟨by rfl, fun w' hSw => by go_simp; simp [HM3.out]⟩) (by assumption) ?_
  try simp only [Act.put, List.setIfInBounds_toArray, List.set_cons_zero, List.set_cons_succ]
  refine wpAnyH_ready (rs := [27]) (by kernel_rfl) (by simp) ?_
  refine AllReadyH.cons (o := ⟨some 38, _, _, _, _, _⟩) rfl (fun K' hK => ?_) AllReadyH.nil
  go_simp
  go_at_call 106
  refine (HAG.out _).mono ?_
  rintro e_ w_6 ⟨rfl, hb_6⟩
  replace HX := hide (HX.out.below hb_6)
  replace HB := hide (HB.out.trans (hb_6.mono (by have := HB.out.size; omega)))
  clear hb_6
  go_wp2_with fail
  refine hK.out _ _ (HAT.out _ HB.out) (fun hHeld => ?_)
  clear hK K'
  try simp only [Act.put, List.setIfInBounds_toArray, List.set_cons_zero, List.set_cons_succ]
  refine wpAnyH_ready (rs := [28]) (by kernel_rfl) (by simp) ?_
  refine AllReadyH.cons (o := ⟨none, _, _, _, _, _⟩) rfl (fun K' hK => ?_) AllReadyH.nil
  obtain ⟨x0, x1, f0, f1, hlx⟩ := HX.out.t2
  go_simp
  clear x0 x1 f0 f1 hlx
  replace HX := hide (HX.out.t2put (.int .i64 d.re) (.int .i64 d.im))
  replace HB := hide ((HB.out.setCell (p := ⟨b2, 0, none⟩) (Nat.le_refl _) (.int .i64 d.re)).setCell (p := ⟨b2, 1, none⟩) (Nat.le_refl _) (.int .i64 d.im))
  obtain ⟨w_7, hw_7⟩ : ∃ z : World, (w_6.setCell ⟨b2, 0, none⟩ (.int .i64 d.re)).setCell ⟨b2, 1, none⟩ (.int .i64 d.im) = z := ⟨_, rfl⟩
  rw [hw_7] at HX HB ⊢
  clear hw_7
  refine hK.out _ _ (HAT.out _ HB.out) (fun hHeld => ?_)
  clear hK K'
  try simp only [Act.put, List.setIfInBounds_toArray, List.set_cons_zero, List.set_cons_succ]
  refine wpAnyH_done (by kernel_rfl) ?_ _
  clear hHeld
  go_wp2_with fail
  obtain ⟨z0, z1, -, -, -⟩ := HX.out.t2
  refine bodyPost_ret (v := .agg #[.int .i64 d.re, .int .i64 d.im]) ?_ rfl ⟨rfl, by first | exact HB.out | (rw [hb2]; exact HB.out)⟩
  simp [results, Tryz.results103, go_sem, z0, z1]
end Go.Proofs.YtcdplfjegopmdaaGreat
/- Determinant of the code. -/
namespace Go.Proofs.YtcdplfjegopmdaaGreat
open Go Go.RowKit Go.Lib Ieee
theorem determinant_any (a ao ca n m : Nat) (L : Nat → Nat) (F : Nat → Nat → Gau) (w : World) (hA : MatsAt w 0 (some ⟨a, ao, none⟩) n L F) (hok : MatOk n m L F) (hnm : n = m) (hn : n ≤ 2) :
    Calls Tryz.prog 103 #[.slice (some ⟨a, ao, none⟩) n ca] w fun e w' => e = .returned (.agg #[.int .i64 (detG n F).re, .int .i64 (detG n F).im]) ∧ Below w.heap.size w w' := by
  have h1 := hok.n1
  have hA2 : MatsAt w 0 (some ⟨a, ao, none⟩) n (fun _ => m) F := fun i hi => by
    obtain ⟨b, o, Ai, ci, e1, e2, e3, e4, e5, e6, e7⟩ := hA i hi
    rw [hok.len i hi] at e4 e5 e7
    exact ⟨b, o, Ai, ci, e1, e2, e3, e4, e5, e6, e7⟩
  by_cases h0 : n = 1
  · have e : detG n F = F 0 0 := by unfold detG; rw [if_pos h0]
    rw [e]
    exact determinant_one a ao ca n m F w h0 hok.m1 hA2
  · have e : n = 2 := by omega
    rw [show detG n F = detG 2 F by rw [e]]
    exact determinant_two a ao ca n m F w e (by omega) hA2 (fun i j hi hj => hok.inside i j (by omega) (by omega))
/-- The error of a determinant. -/
def detE (n : Nat) (L : Nat → Nat) (F : Nat → Nat → Gau) : Int := if matE n L F = 0 then if n = L 0 then if 2 < n then 8 else 0 else 13 else matE n L F
/-- The determinant, or nothing. -/
def detV (n : Nat) (L : Nat → Nat) (F : Nat → Nat → Gau) : Gau := if detE n L F = 0 then detG n F else Gau.zero
set_option maxHeartbeats 4000000 in
set_option maxRecDepth 100000 in
theorem Determinant_any (A : Option Addr) (n c : Nat) (L : Nat → Nat) (F : Nat → Nat → Gau) (w : World) (hn : n ≤ 100000) (hL : ∀ i, i < n → L i ≤ 100000) (hI : MatsAt w 0 A n L F) :
    Calls Tryz.prog 68 #[.slice A n c] w fun e w' => e = .returned (.tuple #[.agg #[.int .i64 (detV n L F).re, .int .i64 (detV n L F).im], .int .i64 (detE n L F)]) ∧ Below w.heap.size w w' := by
  have HCM := hide (fun W (h : MatsAt W 0 A n L F) => CheckMatrix_any A n c L F W hn hL h)
  have HI := hide hI
  have HOK := hide (fun h : matE n L F = 0 => matE_zero h)
  have HDE := hide (show detE n L F = if matE n L F = 0 then if n = L 0 then if 2 < n then 8 else 0 else 13 else matE n L F from rfl)
  have HDV := hide (show detV n L F = if detE n L F = 0 then detG n F else Gau.zero from rfl)
  obtain ⟨E, hE⟩ : ∃ z, detE n L F = z := ⟨_, rfl⟩
  obtain ⟨d, hd⟩ : ∃ z, detV n L F = z := ⟨_, rfl⟩
  obtain ⟨s, hs⟩ : ∃ z, matE n L F = z := ⟨_, rfl⟩
  rw [hE] at HDE HDV
  rw [hd] at HDV
  rw [hs] at HDE HCM HOK
  rw [hE, hd]
  clear hI hE hd hs
  go_enter Tryz.func68, Tryz.ntmps68
  go_upto_region 1 with fail
  obtain ⟨w1, hw1⟩ : ∃ z : World, z = w.alloc (.cells #[.int .i64 0, .int .i64 0] 62) := ⟨_, rfl⟩
  try rw [← hw1]
  obtain ⟨b2, hb2⟩ : ∃ z, w.heap.size = z := ⟨_, rfl⟩
  have HX := hide (show Box w1 b2 62 #[.int .i64 0, .int .i64 0] by rw [hw1]; exact Box.made hb2.symm)
  have HB := hide (show Below w.heap.size w w1 by rw [hw1]; (repeat (first | (with_reducible exact Below.refl _ _) | (with_reducible refine Go.below_drewN ?_ _) | (with_reducible refine Below.drew ?_) | (with_reducible refine Below.alloc ?_ (by first | exact Nat.le_refl _ | (simp; done) | (simp; omega) | omega) _) | (with_reducible refine Below.setCell ?_ (by first | exact Nat.le_refl _ | (simp; done) | (simp; omega) | omega) _))))
  simp only [hb2]
  clear hw1
  go_wp2_with fail
  refine (HCM.out _ (HI.out.below HB.out)).mono ?_
  rintro e w2 ⟨rfl, hb⟩
  replace HX := hide (HX.out.below hb)
  replace HB := hide (HB.out.trans (hb.mono HB.out.size))
  clear hb HCM
  obtain ⟨x0, x1, f0, f1, hlx⟩ := HX.out.t2
  have HX0 := hide (HX.out.t2put (.int .i64 0) (.int .i64 0))
  have HB0 := hide ((HB.out.setCell (p := ⟨b2, 0, none⟩) (by show w.heap.size ≤ b2; omega) (.int .i64 0)).setCell (p := ⟨b2, 1, none⟩) (by show w.heap.size ≤ b2; omega) (.int .i64 0))
  by_cases hz : s = 0
  case neg =>
    obtain rfl : E = s := HDE.out.trans (if_neg hz)
    obtain rfl : d = Gau.zero := HDV.out.trans (if_neg hz)
    have tz : (E != 0) = true := by simpa using hz
    clear HDE HDV HOK HI
    go_wp2_with fail
    obtain ⟨z0, z1, -, -, -⟩ := HX0.out.t2
    refine bodyPost_ret (v := .tuple #[.agg #[.int .i64 0, .int .i64 0], .int .i64 E]) ?_ rfl ⟨rfl, HB0.out⟩
    simp [results, Tryz.results68, go_sem, z0, z1]
  subst hz
  have hok := HOK.out rfl
  have hE2 := HDE.out.trans (if_pos rfl)
  have hn1 := hok.n1
  obtain ⟨b, o, A0, c0, rfl, -, -, y0, hc0, hc09, -⟩ := (HI.out.below HB.out) 0 (by omega)
  simp only [Nat.add_zero] at y0
  by_cases hq : n = L 0
  case neg =>
    rw [if_neg hq] at hE2
    subst hE2
    obtain rfl : d = Gau.zero := HDV.out.trans (if_neg (by decide))
    have tq : ((n : Int) != (L 0 : Int)) = true := by simp; omega
    clear HDE HDV HOK HI hok hc0 hc09
    go_wp2_with fail
    obtain ⟨z0, z1, -, -, -⟩ := HX0.out.t2
    refine bodyPost_ret (v := .tuple #[.agg #[.int .i64 0, .int .i64 0], .int .i64 13]) ?_ rfl ⟨rfl, HB0.out⟩
    simp [results, Tryz.results68, go_sem, z0, z1]
  rw [if_pos hq] at hE2
  have tq : ((n : Int) != (L 0 : Int)) = false := by simp; omega
  have HQ := hide hq
  clear hq
  by_cases h2 : 2 < n
  case pos =>
    rw [if_pos h2] at hE2
    subst hE2
    obtain rfl : d = Gau.zero := HDV.out.trans (if_neg (by decide))
    have t2 : (2 : Int) < (n : Int) := by omega
    clear HDE HDV HOK HI hok hc0 hc09
    go_wp2_with fail
    obtain ⟨z0, z1, -, -, -⟩ := HX0.out.t2
    refine bodyPost_ret (v := .tuple #[.agg #[.int .i64 0, .int .i64 0], .int .i64 8]) ?_ rfl ⟨rfl, HB0.out⟩
    simp [results, Tryz.results68, go_sem, z0, z1]
  rw [if_neg h2] at hE2
  subst hE2
  have t2 : ¬ (2 : Int) < (n : Int) := by omega
  have hdd : d = detG n F := HDV.out.trans (if_pos rfl)
  have HDC := hide (fun W (h : MatsAt W 0 (some ⟨b, o, none⟩) n L F) => determinant_any b o c n (L 0) L F W h hok HQ.out (by omega))
  rw [← hdd] at HDC
  have HIW := hide (HI.out.below HB.out)
  clear HDE HDV HOK HI hok hc0 hc09 hdd x0 x1 f0 f1 hlx HX0 HB0
  go_wp2_with (go_at_call 103; refine (HDC.out _ HIW.out).mono ?_; rintro e w3 ⟨rfl, hb3⟩; obtain ⟨x0, x1, f0, f1, hlx⟩ := (HX.out.below hb3).t2)
  obtain ⟨z0, z1, -, -, -⟩ := ((HX.out.below hb3).t2put (.int .i64 d.re) (.int .i64 d.im)).t2
  refine bodyPost_ret (v := .tuple #[.agg #[.int .i64 d.re, .int .i64 d.im], .int .i64 0]) ?_ rfl ⟨rfl, ((HB.out.trans (hb3.mono HB.out.size)).setCell (p := ⟨b2, 0, none⟩) (by show w.heap.size ≤ b2; omega) _).setCell (p := ⟨b2, 1, none⟩) (by show w.heap.size ≤ b2; omega) _⟩
  simp [results, Tryz.results68, go_sem, z0, z1]
end Go.Proofs.YtcdplfjegopmdaaGreat
