/- Lemmas: S57, S58, S59, S60. -/
import Derived.Test.YtonmkmaeohfjpaaBk14
import Derived.Test.YtonmkmaeohfjpaaBk18
import Derived.Test.YtonmkmaeohfjpaaBk19
import Derived.Test.YtonmkmaeohfjpaaBk20
import Derived.Test.YtonmkmaeohfjpaaBk21
set_option linter.unusedVariables false
set_option linter.unusedSimpArgs false
/- power of the reference, BitsOf of the base, LevelOf of the reference for any count. -/
namespace Go.Proofs.Ytonmkmaeohfjpaa
open Go Go.RowKit Go.Lib Go.Shelf
set_option maxHeartbeats 4000000 in
set_option maxRecDepth 100000 in
theorem powerR_any (c : Nat) (w : World) (h6 : c ≤ 6) : Calls Try.prog 92 #[.int .i64 (c : Int)] w fun e w' => e = .returned (.int .i64 ((2 ^ c : Nat) : Int)) ∧ w = w' := by
  have HP := hide (fun k (h : k ≤ 6) => (show 2 ^ k ≤ 64 from (Nat.pow_le_pow_right (by decide) h : 2 ^ k ≤ 2 ^ 6)))
  go_enter Try.func92, Try.ntmps92
  go_wp2_with fail
  go_loopw [3, 4] (fun v i wr => ∃ k x : Nat, k ≤ c ∧ Hid (2 ^ k = x) ∧ v = .int .i64 (x : Int) ∧ i = .int .i64 (k : Int) ∧ w = wr) (fun _ i _ => c - (Go.RowKit.intOf i).toNat)
  case atStart => exact ⟨0, 1, Nat.zero_le _, hide rfl, by first | trivial | rfl, by first | trivial | rfl, by first | trivial | rfl⟩
  case round =>
    obtain ⟨k, x, hk, HX, rfl, rfl, hw⟩ := hrel
    subst hw
    have hx6 : x ≤ 64 := by rw [← HX.out]; exact HP.out k (by omega)
    by_cases hlt : k < c
    · have hltz : (k : Int) < (c : Int) := by omega
      have q1 : IntKind.i64.wrap (2 * (x : Int)) = ((2 * x : Nat) : Int) := by rw [IntWalk.i64_in _ (by omega)]; push_cast; rfl
      go_wp2_with fail
      go_roundw
      case rel => exact ⟨k + 1, 2 * x, by omega, hide (by rw [Nat.pow_succ, HX.out]; omega), by first | rfl | (simp; done) | go_num, by go_num, by first | trivial | rfl⟩
      case measure => simp [Go.RowKit.intOf] <;> omega
    · have hkc : k = c := by omega
      subst hkc
      have hltz : ¬ (k : Int) < (k : Int) := by omega
      have e1 : ((x : Nat) : Int) = ((2 ^ k : Nat) : Int) := by rw [HX.out]
      go_wp2_with fail
      go_ret
      exact ⟨by first | rfl | (simp [← e1]; done), rfl⟩
set_option maxHeartbeats 4000000 in
set_option maxRecDepth 100000 in
theorem BitsOfB_any (j c : Nat) (w : World) (hj : j < 64) (h1 : 1 ≤ c) (h6 : c ≤ 6) :
    Calls Try.prog 48 #[.int .i64 (j : Int), .int .i64 (c : Int)] w fun e w' => ∃ g, e = .returned (.slice (some ⟨g, 0, none⟩) c c) ∧ IntsAt w' 0 (some ⟨g, 0, none⟩) c (labF c j) ∧ Below w.heap.size w w' := by
  obtain ⟨i0, hi, hz0, hz1, hz2⟩ := info_parts intInfo
  have hmk := fun W => run_make_row (P := Try.prog) 22 3 i0 (.int .i64 0) Try.underlying22 hi hz0 hz1 rfl .i64 .i64 c (by rw [hz2]; omega) (by omega) W
  clear hi hz0 hz1 hz2
  have HL0 := hide (fun k p y => (show p = c - 1 - k → j / 2 ^ k = y → k < c → ((y % 2 : Nat) : Int) = labF c j p from fun e h hk => by
    unfold labF
    rw [show c - 1 - p = k by omega, h]))
  have HLS := hide (fun k p => (show p = c - 1 - k → k < c → setF (fun q => if c - k ≤ q then labF c j q else 0) p (labF c j p) = fun q => if c - (k + 1) ≤ q then labF c j q else 0 from fun e hk => by
    funext q
    show (if q = p then labF c j p else if c - k ≤ q then labF c j q else 0) = if c - (k + 1) ≤ q then labF c j q else 0
    by_cases h : q = p
    · subst h; rw [if_pos rfl, if_pos (by omega)]
    · rw [if_neg h]
      by_cases h2 : c - k ≤ q
      · rw [if_pos h2, if_pos (by omega)]
      · rw [if_neg h2, if_neg (by omega)]))
  obtain ⟨F, hF⟩ : ∃ z, labF c j = z := ⟨_, rfl⟩
  simp only [hF] at HL0 HLS ⊢
  clear hF
  go_enter Try.func48, Try.ntmps48
  go_upto_region 2 with fail
  obtain ⟨gL, hgL⟩ : ∃ z, w.heap.size = z := ⟨_, rfl⟩
  obtain ⟨w3, hw3⟩ : ∃ q' : World, q' = w.alloc (.cells (madeCells #[.int .i64 0] c) 3) := ⟨_, rfl⟩
  try rw [← hw3]
  have HL := hide (show OwnInts w3 gL (.slice (some ⟨gL, 0, none⟩) c c) c (fun p => if c - 0 ≤ p then F p else 0) by rw [hw3]; exact (ownS_zeros w gL gL c (by omega) hgL.symm (by unfold maxLen; omega)).congr fun p hp => (if_neg (by omega)).symm)
  have HB := hide (show Below gL w w3 by rw [hw3, ← hgL]; (repeat (first | (with_reducible exact Below.refl _ _) | (with_reducible refine Go.below_drewN ?_ _) | (with_reducible refine Below.drew ?_) | (with_reducible refine Below.alloc ?_ (by first | exact Nat.le_refl _ | (simp; done) | (simp; omega) | omega) _) | (with_reducible refine Below.setCell ?_ (by first | exact Nat.le_refl _ | (simp; done) | (simp; omega) | omega) _))))
  clear hw3
  try simp only [hgL]
  go_wp2_with fail
  go_loopw [0, 6] (fun n i wr => ∃ (k y : Nat) (z : Int), k ≤ c ∧ Hid (j / 2 ^ k = y) ∧ y < 64 ∧ Hid (z = (c : Int) - 1 - (k : Int)) ∧ n = .int .i64 (y : Int) ∧ i = .int .i64 z ∧ Hid (OwnInts wr gL (.slice (some ⟨gL, 0, none⟩) c c) c (fun q => if c - k ≤ q then F q else 0)) ∧ Hid (Below gL w wr)) (fun _ i _ => (Go.RowKit.intOf i + 1).toNat)
  case atStart => exact ⟨0, j, _, Nat.zero_le _, hide (by simp), hj, hide (by omega), rfl, rfl, HL, HB⟩
  case round =>
    clear HL HB
    obtain ⟨k, y, z, hk, HY, hy, HZ, rfl, rfl, HL, HB⟩ := hrel
    obtain ⟨wB, rfl⟩ : ∃ x : World, x = wr := ⟨_, rfl⟩
    by_cases hlt : k < c
    · obtain ⟨p, rfl⟩ : ∃ p : Nat, z = (p : Int) := ⟨z.toNat, by have := HZ.out; omega⟩
      have hpk : p = c - 1 - k := by have := HZ.out; omega
      have hpc : p < c := by omega
      have hpz : (p : Int) < (c : Int) := by omega
      obtain ⟨v, hv⟩ : ∃ z, F p = z := ⟨_, rfl⟩
      have q0 : ((y % 2 : Nat) : Int) = v := (HL0.out k p y hpk HY.out hlt).trans hv
      have q1 : Int.tmod (y : Int) 2 = v := by rw [Int.tmod_eq_emod_of_nonneg (by omega)]; omega
      have q2 : (y : Int) % 2 = v := by omega
      have q3 : Int.tdiv (y : Int) 2 = ((y / 2 : Nat) : Int) := by rw [Int.tdiv_eq_ediv_of_nonneg (by omega)]; omega
      have q4 : (y : Int) / 2 = ((y / 2 : Nat) : Int) := by omega
      obtain ⟨y2, hy2⟩ : ∃ z, y / 2 = z := ⟨_, rfl⟩
      rw [hy2] at q3 q4
      have HY2 := hide (show j / 2 ^ (k + 1) = y2 by rw [Nat.pow_succ, ← Nat.div_div_eq_div_mul, HY.out, hy2])
      have hy64 : y2 < 64 := by omega
      have c0 := HL.out.cellAt hpc
      have k0 := HL.out.frozen p
      have HL5 := hide (HL.out.set_ p v)
      rw [← hv, HLS.out k p hpk hlt, hv] at HL5
      have HB5 := hide (HB.out.setCell (p := ⟨gL, p, none⟩) (Nat.le_refl _) (.int .i64 v))
      clear hv HL HB q0 hy2 hpk
      go_wp2_with fail
      go_roundw
      case rel => exact ⟨k + 1, y2, (p : Int) - 1, by omega, HY2, hy64, hide (by have := HZ.out; omega), by first | rfl | (simp; done) | go_num, by go_num, HL5, HB5⟩
      case measure => simp [Go.RowKit.intOf] <;> omega
    · have hkc : k = c := by omega
      have hz0 : ¬ (0 : Int) ≤ z := by have := HZ.out; omega
      have hI := HL.out.atG (lo := 0) (Nat.zero_le _)
      have HI := hide (show IntsAt wB 0 (some ⟨gL, 0, none⟩) c F from hI.congr fun q _ => if_pos (by omega))
      clear hI HL HL0 HLS HY HZ hkc hlt
      go_wp2_with fail
      go_ret
      exact ⟨gL, rfl, HI.out, hgL ▸ HB.out⟩
theorem LevelOfR_any (b o c h : Nat) (F : Nat → Int) (w : World) (h1 : 1 ≤ h) (h3 : h ≤ 3) (hc : h ≤ c) (hc9 : c ≤ 9223372036854775807) (hF : ∀ j, j < h → IsBit (F j)) (hI : IntsAt w 0 (some ⟨b, o, none⟩) h F) :
    Calls Try.prog 40 #[.slice (some ⟨b, o, none⟩) h c] w fun e w' => e = .returned (.int .i64 (lvl h F)) ∧ w = w' := by
  obtain rfl | rfl | rfl : h = 1 ∨ h = 2 ∨ h = 3 := by omega
  · exact LevelOfR1_any b o c F w hc hc9 hF hI
  · exact LevelOfR2_any b o c F w hc hc9 hF hI
  · exact LevelOfR3_any b o c F w hc hc9 hF hI
end Go.Proofs.Ytonmkmaeohfjpaa
/- BitsOf of the reference. -/
namespace Go.Proofs.Ytonmkmaeohfjpaa
open Go Go.RowKit Go.Lib Go.Shelf
theorem first_ex (P : Nat → Prop) : ∀ N : Nat, (∃ n, n < N ∧ P n ∧ ∀ q, q < n → ¬ P q) ∨ (∀ q, q < N → ¬ P q) := fun N => by
  induction N with
  | zero => exact .inr fun q h => absurd h (Nat.not_lt_zero q)
  | succ N ih =>
    rcases ih with ⟨n, h1, h2, h3⟩ | h
    · exact .inl ⟨n, by omega, h2, h3⟩
    · by_cases hN : P N
      · exact .inl ⟨N, Nat.lt_succ_self _, hN, h⟩
      · exact .inr fun q hq => by
          by_cases e : q = N
          · subst e; exact hN
          · exact h q (by omega)
set_option maxHeartbeats 4000000 in
set_option maxRecDepth 100000 in
theorem BitsOfR_wrong (c v : Int) (w : World) (h : ¬ (1 ≤ c ∧ c ≤ 3)) :
    Calls Try.prog 37 #[.int .i64 c, .int .i64 v] w fun e w' => e = .returned (.tuple #[.slice none 0 0, .int .i64 2]) ∧ w = w' := by
  have hwi := fun W => within_any c 1 3 W
  simp only [withinB_no h] at hwi
  go_enter Try.func37, Try.ntmps37
  go_wp2_with (go_at_call 17; refine (hwi _).mono ?_; rintro e_ v_ ⟨rfl, rfl⟩)
  go_ret2
  exact ⟨rfl, rfl⟩
set_option maxHeartbeats 8000000 in
set_option maxRecDepth 100000 in
theorem BitsOfR_hit (c n : Nat) (v : Int) (w : World) (h1 : 1 ≤ c) (h3 : c ≤ 3) (hn : n < 2 ^ c) (hb : ∀ q, q < n → lvl c (labF c q) ≠ v) (ha : lvl c (labF c n) = v) :
    Calls Try.prog 37 #[.int .i64 (c : Int), .int .i64 v] w fun e w' => ∃ g, e = .returned (.tuple #[.slice (some ⟨g, 0, none⟩) c c, .int .i64 0]) ∧ IntsAt w' 0 (some ⟨g, 0, none⟩) c (labF c n) ∧ Below w.heap.size w w' := by
  have HPW := hide (fun W => powerR_any c W (by omega))
  have hN8 : 2 ^ c ≤ 8 := (Nat.pow_le_pow_right (by decide) h3 : 2 ^ c ≤ 2 ^ 3)
  obtain ⟨N, hN⟩ : ∃ N : Nat, 2 ^ c = N := ⟨_, rfl⟩
  rw [hN] at hn hN8 HPW
  have HBI := hide (fun j W (h : j < 64) => BitsOfB_any j c W h h1 (by omega))
  have HLV := hide (fun b j W hI => LevelOfR_any b 0 c c (labF c j) W h1 h3 (Nat.le_refl _) (by omega) (fun p _ => labF_bit c j p) hI)
  have HBB := hide hb
  have HAA := hide ha
  have hwi := fun W => within_any (c : Int) 1 3 W
  simp only [withinB_yes (show 1 ≤ (c : Int) ∧ (c : Int) ≤ 3 by omega)] at hwi
  have HB := hide (Below.refl w.heap.size w)
  clear hb ha hN
  go_enter Try.func37, Try.ntmps37
  go_wp2_with (go_at_call 17; refine (hwi _).mono ?_; rintro e_ v_ ⟨rfl, rfl⟩)
  go_loopw [6] (fun i wr => ∃ k : Nat, k ≤ n ∧ i = .int .i64 (k : Int) ∧ Hid (Below w.heap.size w wr)) (fun i _ => n - (Go.RowKit.intOf i).toNat)
  case atStart => exact ⟨0, Nat.zero_le _, rfl, HB⟩
  case round =>
    clear HB hwi
    obtain ⟨k, hk, rfl, HB⟩ := hrel
    obtain ⟨wA, rfl⟩ : ∃ x : World, x = wr := ⟨_, rfl⟩
    have hkN : (k : Int) < (N : Int) := by omega
    go_wp2_with fail
    refine (HPW.out _).mono ?_
    rintro e_ v_ ⟨rfl, rfl⟩
    go_wp2_with fail
    refine (HBI.out k _ (by omega)).mono ?_
    rintro e_ w2 ⟨g, rfl, hI, hb2⟩
    have HI := hide hI
    replace HB := hide (HB.out.trans (hb2.mono HB.out.size))
    clear hI hb2
    go_wp2_with fail
    have HLK := hide (HLV.out g k _ HI.out)
    obtain ⟨y, hy⟩ : ∃ z, lvl c (labF c k) = z := ⟨_, rfl⟩
    rw [hy] at HLK
    by_cases hlt : k < n
    · have hne : y ≠ v := hy ▸ HBB.out k hlt
      have t1 : (y == v) = false := by simpa using hne
      clear hy
      refine HLK.out.mono ?_
      rintro e_ v_ ⟨rfl, rfl⟩
      go_wp2_with fail
      go_roundw
      case rel => exact ⟨k + 1, by omega, by go_num, HB⟩
      case measure => simp [Go.RowKit.intOf] <;> omega
    · have hkn : k = n := by omega
      subst hkn
      have hyv : y = v := hy.symm.trans HAA.out
      subst hyv
      clear hy
      refine HLK.out.mono ?_
      rintro e_ v_ ⟨rfl, rfl⟩
      go_wp2_with fail
      go_ret2
      exact ⟨g, rfl, HI.out, HB.out⟩
set_option maxHeartbeats 8000000 in
set_option maxRecDepth 100000 in
theorem BitsOfR_miss (c : Nat) (v : Int) (w : World) (h1 : 1 ≤ c) (h3 : c ≤ 3) (hb : ∀ q, q < 2 ^ c → lvl c (labF c q) ≠ v) :
    Calls Try.prog 37 #[.int .i64 (c : Int), .int .i64 v] w fun e w' => e = .returned (.tuple #[.slice none 0 0, .int .i64 3]) ∧ Below w.heap.size w w' := by
  have HPW := hide (fun W => powerR_any c W (by omega))
  have hN8 : 2 ^ c ≤ 8 := (Nat.pow_le_pow_right (by decide) h3 : 2 ^ c ≤ 2 ^ 3)
  obtain ⟨N, hN⟩ : ∃ N : Nat, 2 ^ c = N := ⟨_, rfl⟩
  rw [hN] at hN8 HPW hb
  have HBI := hide (fun j W (h : j < 64) => BitsOfB_any j c W h h1 (by omega))
  have HLV := hide (fun b j W hI => LevelOfR_any b 0 c c (labF c j) W h1 h3 (Nat.le_refl _) (by omega) (fun p _ => labF_bit c j p) hI)
  have HBB := hide hb
  have hwi := fun W => within_any (c : Int) 1 3 W
  simp only [withinB_yes (show 1 ≤ (c : Int) ∧ (c : Int) ≤ 3 by omega)] at hwi
  have HB := hide (Below.refl w.heap.size w)
  clear hb hN
  go_enter Try.func37, Try.ntmps37
  go_wp2_with (go_at_call 17; refine (hwi _).mono ?_; rintro e_ v_ ⟨rfl, rfl⟩)
  go_loopw [6] (fun i wr => ∃ k : Nat, k ≤ N ∧ i = .int .i64 (k : Int) ∧ Hid (Below w.heap.size w wr)) (fun i _ => N - (Go.RowKit.intOf i).toNat)
  case atStart => exact ⟨0, Nat.zero_le _, rfl, HB⟩
  case round =>
    clear HB hwi
    obtain ⟨k, hk, rfl, HB⟩ := hrel
    obtain ⟨wA, rfl⟩ : ∃ x : World, x = wr := ⟨_, rfl⟩
    by_cases hlt : k < N
    · have hkN : (k : Int) < (N : Int) := by omega
      go_wp2_with fail
      refine (HPW.out _).mono ?_
      rintro e_ v_ ⟨rfl, rfl⟩
      go_wp2_with fail
      refine (HBI.out k _ (by omega)).mono ?_
      rintro e_ w2 ⟨g, rfl, hI, hb2⟩
      have HI := hide hI
      replace HB := hide (HB.out.trans (hb2.mono HB.out.size))
      clear hI hb2
      go_wp2_with fail
      have HLK := hide (HLV.out g k _ HI.out)
      obtain ⟨y, hy⟩ : ∃ z, lvl c (labF c k) = z := ⟨_, rfl⟩
      rw [hy] at HLK
      have hne : y ≠ v := hy ▸ HBB.out k hlt
      have t1 : (y == v) = false := by simpa using hne
      clear hy
      refine HLK.out.mono ?_
      rintro e_ v_ ⟨rfl, rfl⟩
      go_wp2_with fail
      go_roundw
      case rel => exact ⟨k + 1, by omega, by go_num, HB⟩
      case measure => simp [Go.RowKit.intOf] <;> omega
    · have hkN : ¬ (k : Int) < (N : Int) := by omega
      go_wp2_with fail
      refine (HPW.out _).mono ?_
      rintro e_ v_ ⟨rfl, rfl⟩
      go_wp2_with fail
      go_ret2
      exact ⟨rfl, HB.out⟩
end Go.Proofs.Ytonmkmaeohfjpaa
/- BitsOf of the code. -/
namespace Go.Proofs.Ytonmkmaeohfjpaa
open Go Go.RowKit Go.Lib Go.Shelf
attribute [local go_sem] Oper.semAt_some
/-- The answer: the bits of the first number whose level this is, or none. -/
def FoundB (c : Nat) (v : Int) (w : World) (e : Ending) (w' : World) : Prop := Below w.heap.size w w' ∧ ((∃ n g, n < 2 ^ c ∧ lvl c (labF c n) = v ∧ (∀ q, q < n → lvl c (labF c q) ≠ v) ∧ e = .returned (.tuple #[.slice (some ⟨g, 0, none⟩) c c, .int .i64 0]) ∧ IntsAt w' 0 (some ⟨g, 0, none⟩) c (labF c n)) ∨ ((∀ q, q < 2 ^ c → lvl c (labF c q) ≠ v) ∧ e = .returned (.tuple #[.slice none 0 0, .int .i64 3])))
structure BInv (w0 W : World) (B b3 b4 b5 c : Nat) (v : Int) (k : Nat) : Prop where
  arg : Box W b3 3 #[.int .i64 v]
  one : Box W b4 22 #[.slice none 0 0]
  two : Box W b5 28 #[.int .i64 0]
  none_ : ∀ q, q < k → lvl c (labF c q) ≠ v
  below : Below B w0 W
structure BHit (w0 W : World) (B b4 b5 lo c : Nat) (v : Int) (pre : List Nat) (x : Nat) : Prop where
  one : Box W b4 22 #[.slice (some ⟨x, 0, none⟩) c c]
  two : Box W b5 28 #[.int .i64 0]
  told : ToldL lo c pre x W
  hit : lvl c (labF c pre.length) = v
  small : pre.length < 2 ^ c
  none_ : ∀ q, q < pre.length → lvl c (labF c q) ≠ v
  below : Below B w0 W
section
variable {w0 W Y : World} {B b3 b4 b5 lo c k : Nat} {v : Int} {pre : List Nat} {x : Nat}
theorem BInv.roundly {row : Option Nat} (h : BInv w0 W B b3 b4 b5 c v k) (hg : W.grownBy Y row) (hB : B ≤ b3) (hr : ∀ r, row = some r → B ≤ r ∧ ∃ o : Obj, W.heap[r]? = some o ∧ o.isCells = false) : BInv w0 Y B b3 b4 b5 c v k :=
  ⟨h.arg.roundly hg fun r e => (hr r e).2, h.one.roundly hg fun r e => (hr r e).2, h.two.roundly hg fun r e => (hr r e).2, h.none_, h.below.grown hg (by have := h.arg.lt; omega) fun r e => (hr r e).1⟩
theorem BInv.under (h : BInv w0 W B b3 b4 b5 c v k) (hb : Below W.heap.size W Y) (hB : B ≤ b3) : BInv w0 Y B b3 b4 b5 c v k :=
  ⟨h.arg.below hb, h.one.below hb, h.two.below hb, h.none_, h.below.trans (hb.mono (by have := h.arg.lt; omega))⟩
theorem BHit.roundly {row : Option Nat} (h : BHit w0 W B b4 b5 lo c v pre x) (hg : W.grownBy Y row) (hB : B ≤ b4) (hr : ∀ r, row = some r → B ≤ r ∧ ∃ o : Obj, W.heap[r]? = some o ∧ o.isCells = false) : BHit w0 Y B b4 b5 lo c v pre x :=
  ⟨h.one.roundly hg fun r e => (hr r e).2, h.two.roundly hg fun r e => (hr r e).2, ⟨h.told.1, h.told.2.roundly hg fun r e => (hr r e).2⟩, h.hit, h.small, h.none_, h.below.grown hg (by have := h.one.lt; omega) fun r e => (hr r e).1⟩
end
set_option maxHeartbeats 4000000 in
set_option maxRecDepth 100000 in
theorem BitsOf_wrong (c v : Int) (w : World) (h : ¬ (1 ≤ c ∧ c ≤ 3)) :
    Calls Try.prog 36 #[.int .i64 c, .int .i64 v] w fun e w' => e = .returned (.tuple #[.slice none 0 0, .int .i64 2]) ∧ Below w.heap.size w w' := by
  have hwi := fun W => isWithin_any c 1 3 W
  simp only [withinB_no h] at hwi
  go_enter Try.func36, Try.ntmps36
  go_upto_region 1 with fail
  obtain ⟨w1, hw1⟩ : ∃ z : World, z = ((w.alloc (.cells #[.int .i64 v] 3)).alloc (.cells #[.slice none 0 0] 22)).alloc (.cells #[.int .i64 0] 28) := ⟨_, rfl⟩
  try rw [← hw1]
  obtain ⟨b3, hb3⟩ : ∃ z, w.heap.size = z := ⟨_, rfl⟩
  obtain ⟨b4, hb4⟩ : ∃ z, b3 + 1 = z := ⟨_, rfl⟩
  obtain ⟨b5, hb5⟩ : ∃ z, b4 + 1 = z := ⟨_, rfl⟩
  have HX4 := hide (show Box w1 b4 22 #[.slice none 0 0] by rw [hw1]; exact (Box.made (by simp; omega)).alloc _)
  have HX5 := hide (show Box w1 b5 28 #[.int .i64 0] by rw [hw1]; exact Box.made (by simp; omega))
  have HB := hide (show Below w.heap.size w w1 by rw [hw1]; (repeat (first | (with_reducible exact Below.refl _ _) | (with_reducible refine Go.below_drewN ?_ _) | (with_reducible refine Below.drew ?_) | (with_reducible refine Below.alloc ?_ (by first | exact Nat.le_refl _ | (simp; done) | (simp; omega) | omega) _) | (with_reducible refine Below.setCell ?_ (by first | exact Nat.le_refl _ | (simp; done) | (simp; omega) | omega) _))))
  try simp only [hb3, hb4, hb5]
  clear hw1
  go_wp2_with (go_at_call 80; refine (hwi _).mono ?_; rintro e_ v_ ⟨rfl, rfl⟩; obtain ⟨y0, f0, l0⟩ := HX4.out.oneS; obtain ⟨z0, f1, l1⟩ := HX5.out.oneS)
  have HY4 := hide ((HX4.out.oneSput (.slice none 0 0)).other (p := ⟨b5, 0, none⟩) (by show b4 ≠ b5; omega) (.int .i64 2))
  have HY5 := hide ((HX5.out.other (p := ⟨b4, 0, none⟩) (by show b5 ≠ b4; omega) (.slice none 0 0)).oneSput (.int .i64 2))
  obtain ⟨y4, -, -⟩ := HY4.out.oneS
  obtain ⟨y5, -, -⟩ := HY5.out.oneS
  refine bodyPost_ret (v := .tuple #[.slice none 0 0, .int .i64 2]) ?_ rfl ⟨rfl, (HB.out.setCell (p := ⟨b4, 0, none⟩) (by show w.heap.size ≤ b4; omega) (.slice none 0 0)).setCell (p := ⟨b5, 0, none⟩) (by show w.heap.size ≤ b5; omega) (.int .i64 2)⟩
  simp [results, Try.results36, go_sem, y4, y5]
set_option maxHeartbeats 16000000 in
set_option maxRecDepth 100000 in
theorem BitsOf_right (c : Nat) (v : Int) (w : World) (h1 : 1 ≤ c) (h3 : c ≤ 3) :
    Calls Try.prog 36 #[.int .i64 (c : Int), .int .i64 v] w (FoundB c v w) := by
  obtain ⟨Q, hQ⟩ : ∃ z, FoundB c v w = z := ⟨_, rfl⟩
  rw [hQ]
  have HQ := hide hQ
  clear hQ
  have hwi := fun W => isWithin_any (c : Int) 1 3 W
  simp only [withinB_yes (show 1 ≤ (c : Int) ∧ (c : Int) ≤ 3 by omega)] at hwi
  refine (callsIn_wide (n := 9)).1 ?_
  refine callsIn_of_wp_marks Try.func36 rfl trivial ?_ rfl
  refine wpIn_wide.2 ?_
  simp only [Try.ntmps36, List.size_toArray, List.length_cons, List.length_nil, Nat.reduceAdd, Nat.reduceSub, Array.replicate_succ, Array.replicate_zero, List.push_toArray, List.append_toArray, List.nil_append, List.cons_append]
  go_upto_region 1 with fail
  obtain ⟨w1, hw1⟩ : ∃ z : World, z = ((w.alloc (.cells #[.int .i64 v] 3)).alloc (.cells #[.slice none 0 0] 22)).alloc (.cells #[.int .i64 0] 28) := ⟨_, rfl⟩
  try rw [← hw1]
  obtain ⟨b3, hb3⟩ : ∃ z, w.heap.size = z := ⟨_, rfl⟩
  obtain ⟨b4, hb4⟩ : ∃ z, b3 + 1 = z := ⟨_, rfl⟩
  obtain ⟨b5, hb5⟩ : ∃ z, b4 + 1 = z := ⟨_, rfl⟩
  have HL := hide (show BInv w w1 b3 b3 b4 b5 c v 0 by
    rw [hw1]
    exact ⟨((Box.made hb3.symm).alloc _).alloc _, (Box.made (by simp; omega)).alloc _, Box.made (by simp; omega), fun q h => absurd h (Nat.not_lt_zero q), by rw [← hb3]; (repeat (first | (with_reducible exact Below.refl _ _) | (with_reducible refine Go.below_drewN ?_ _) | (with_reducible refine Below.drew ?_) | (with_reducible refine Below.alloc ?_ (by first | exact Nat.le_refl _ | (simp; done) | (simp; omega) | omega) _) | (with_reducible refine Below.setCell ?_ (by first | exact Nat.le_refl _ | (simp; done) | (simp; omega) | omega) _)))⟩)
  try simp only [hb3, hb4, hb5]
  clear hw1
  have hB3 : b3 ≤ b3 := Nat.le_refl _
  go_wp2_with (go_at_call 80; refine (hwi _).mono ?_; rintro e_ v_ ⟨rfl, rfl⟩)
  clear hwi
  refine (labelsOf_any _ _).mono ?_
  rintro e w6 ⟨rfl, hw6⟩
  obtain ⟨b6, hb6⟩ : ∃ z, w1.heap.size = z := ⟨_, rfl⟩
  have bn : Box w6 b6 3 #[.int .i64 (c : Int)] := by rw [← hw6]; exact Box.made hb6.symm
  have hc6 : Below w1.heap.size w1 w6 := by rw [← hw6]; (repeat (first | (with_reducible exact Below.refl _ _) | (with_reducible refine Go.below_drewN ?_ _) | (with_reducible refine Below.drew ?_) | (with_reducible refine Below.alloc ?_ (by first | exact Nat.le_refl _ | (simp; done) | (simp; omega) | omega) _) | (with_reducible refine Below.setCell ?_ (by first | exact Nat.le_refl _ | (simp; done) | (simp; omega) | omega) _)))
  have h56 : b5 < b6 := by rw [← hb6]; exact HL.out.two.lt
  replace HL := hide (HL.out.under hc6 hB3)
  simp only [hb6]
  clear hw6 hc6 hb6
  go_wp2_with fail
  refine (wpIn_wide (n := 9)).1 ?_
  apply wpIn_rangeFunc_told (n := 9) (encs := encL c) rfl (by decide) rfl trivial (enters_of Try.func122 (by kernel_rfl) rfl) (labels_told 8 b6 c w6 bn h1 (by omega)) bn.lt (Below.refl _ _) (fun _ => rfl)
    (fun xs W => BInv w W b3 b3 b4 b5 c v xs.length) (fun xs W => ∃ pre x, xs = pre ++ [x] ∧ BHit w W b3 b4 b5 w6.heap.size c v pre x)
  case hI => exact fun xs X Y row h hg hr => h.roundly hg hB3 fun r e => ⟨by have := (hr r e).1; have := bn.lt; omega, (hr r e).2⟩
  case hIr => exact fun xs X Y row ⟨pre, x, e, h⟩ hg hr => ⟨pre, x, e, h.roundly hg (by omega) fun r e => ⟨by have := (hr r e).1; have := bn.lt; omega, (hr r e).2⟩⟩
  case hT => exact fun xs x => told_own _ _ _ xs x
  case h0 => exact HL.out
  case hassign =>
    intro l x W K hK
    unfold encL
    gi_wp2
    exact hK
  case hbody =>
    intro l xs x W hsz HLW HT hlen
    obtain ⟨k, hk⟩ : ∃ k, xs.length = k := ⟨_, rfl⟩
    have HLEN := hide (show (xs ++ [x]).length = k + 1 by rw [List.length_append, hk]; rfl)
    have HK := hide hk
    rw [hk] at HLW hlen
    obtain ⟨hlo, hIx⟩ := HT
    rw [hk] at hIx
    have HLO := hide hlo
    have h6W := bn.lt
    clear HL
    have HL := hide HLW
    have HI := hide hIx
    have HKF := hide (KeepsFrom.refl w6.heap.size W)
    obtain ⟨o6, ho6⟩ : ∃ z, W.heap[b6]? = z := ⟨_, rfl⟩
    have HW6 := hide ho6
    have HO6 := hide ho6
    clear ho6
    have hsW := hsz
    clear HLW hIx hk hlo
    have HLV := hide (fun W1 (h : IntsAt W1 0 (some ⟨x, 0, none⟩) c (labF c k)) => levelOf_any x 0 c c _ W1 h1 h3 (Nat.le_refl _) (by omega) (fun j _ => labF_bit c k j) h)
    obtain ⟨y, hy⟩ : ∃ z, lvl c (labF c k) = z := ⟨_, rfl⟩
    rw [hy] at HLV
    have HY := hide hy
    clear hy
    gi_wp2_with fail
    refine wpIn_region_held_drew (S := fun w' => w'.cell? ⟨b3, 0, none⟩ = some (.int .i64 v)) (by kernel_rfl) (by kernel_rfl) (fun ⟨_, _, h⟩ => h) (HL.out.arg.at_ 0) (fun hHeld => ?_)
    obtain ⟨w_1, hw_1⟩ : ∃ q : World, q = W.drew := ⟨_, rfl⟩
    rw [← hw_1] at hHeld ⊢
    have hc_1 : Below W.heap.size W w_1 := by rw [hw_1]; exact (Below.refl _ _).drew
    clear hw_1
    replace HI := hide (HI.out.below hc_1)
    replace HL := hide (HL.out.under hc_1 hB3)
    replace HKF := hide (keepsUnder HKF.out hc_1)
    replace HW6 := hide ((hc_1.block b6 (by omega)).trans HW6.out)
    replace hsW := Nat.le_trans hsW hc_1.size
    clear hc_1
    refine wpAnyH_take (i := 0) (oi := ⟨some 13, _, _, _, _, _⟩) (v := ?_) rfl (by kernel_rfl) (by kernel_rfl) (by kernel_rfl) (fun _ _ _ h => h) (Or.inl ⟨by rfl, ?_⟩) (by assumption) ?_
    rotate_left
    · (intro w' hSw; (try dsimp only at hSw); go_simp <;> (with_reducible rfl))
    try simp only [Act.put, List.setIfInBounds_toArray, List.set_cons_zero, List.set_cons_succ]
    refine wpAnyH_take (i := 2) (oi := ⟨some 15, _, _, _, _, _⟩) (v := ?_) rfl (by kernel_rfl) (by kernel_rfl) (by kernel_rfl) (fun _ _ _ h => h) (Or.inl ⟨by rfl, ?_⟩) (by assumption) ?_
    rotate_left
    · (intro w' hSw; (try dsimp only at hSw); go_simp <;> (with_reducible rfl))
    try simp only [Act.put, List.setIfInBounds_toArray, List.set_cons_zero, List.set_cons_succ]
    refine wpAnyH_ready (rs := [1]) (by kernel_rfl) (by simp) ?_
    refine AllReadyH.cons (o := ⟨some 14, _, _, _, _, _⟩) rfl (fun K' hK => ?_) AllReadyH.nil
    go_simp
    go_at_call 91
    refine (HLV.out _ (HI.out.weak (Nat.zero_le _))).mono ?_
    rintro e_ w_2 ⟨rfl, hb_2⟩
    replace HI := hide (HI.out.below hb_2)
    replace HL := hide (HL.out.under hb_2 hB3)
    replace HKF := hide (keepsUnder HKF.out hb_2)
    replace HW6 := hide ((hb_2.block b6 (by omega)).trans HW6.out)
    replace hsW := Nat.le_trans hsW hb_2.size
    clear hb_2
    go_wp2_with fail
    refine hK.out _ _ (HL.out.arg.at_ 0) (fun hHeld => ?_)
    clear hK K'
    try simp only [Act.put, List.setIfInBounds_toArray, List.set_cons_zero, List.set_cons_succ]
    refine wpAnyH_take (i := 3) (oi := ⟨some 16, _, _, _, _, _⟩) (v := ?_) rfl (by kernel_rfl) (by kernel_rfl) (by kernel_rfl) (fun _ _ _ h => h) (Or.inl ⟨by rfl, ?_⟩) (by assumption) ?_
    rotate_left
    · (intro w' hSw; (try dsimp only at hSw); go_simp <;> (with_reducible rfl))
    try simp only [Act.put, List.setIfInBounds_toArray, List.set_cons_zero, List.set_cons_succ]
    refine wpAnyH_done (by kernel_rfl) ?_ _
    clear hHeld HLV
    by_cases hyv : y = v
    case neg =>
      have t1 : (y == v) = false := by simpa using hyv
      gi_wp2_with fail
      try simp only [Exit.inBlock]
      refine ⟨HKF.out, HW6.out.trans HO6.out.symm, ?_⟩
      show BInv w w_2 b3 b3 b4 b5 c v (xs ++ [x]).length
      rw [HLEN.out]
      exact ⟨HL.out.arg, HL.out.one, HL.out.two, fun q hq => by
        by_cases e : q = k
        · subst e; rw [HY.out]; exact hyv
        · exact HL.out.none_ q (by omega), HL.out.below⟩
    subst hyv
    obtain ⟨y0, f0, l0⟩ := HL.out.one.oneS
    obtain ⟨z0, f1, l1⟩ := HL.out.two.oneS
    gi_wp2_with fail
    try simp only [Exit.inBlock]
    refine ⟨keepsStored (b := b5) (o := 0) (u := (.int .i64 0)) (keepsStored (b := b4) (o := 0) (u := (.slice (some ⟨x, 0, none⟩) c c)) HKF.out (by omega)) (by omega), xs, x, rfl, ?_⟩
    have HT1 := (((HI.out.other (p := ⟨b4, 0, none⟩) (by show b4 < w6.heap.size; omega) (.slice (some ⟨x, 0, none⟩) c c)).other (p := ⟨b5, 0, none⟩) (by show b5 < w6.heap.size; omega) (.int .i64 0)))
    exact ⟨(HL.out.one.oneSput (.slice (some ⟨x, 0, none⟩) c c)).other (p := ⟨b5, 0, none⟩) (by show b4 ≠ b5; omega) (.int .i64 0), (HL.out.two.other (p := ⟨b4, 0, none⟩) (by show b5 ≠ b4; omega) (.slice (some ⟨x, 0, none⟩) c c)).oneSput (.int .i64 0), ⟨HLO.out, by rw [HK.out]; exact HT1⟩, by rw [HK.out]; exact HY.out, by rw [HK.out]; exact hlen, by rw [HK.out]; exact HL.out.none_, (HL.out.below.setCell (p := ⟨b4, 0, none⟩) (by show b3 ≤ b4; omega) (.slice (some ⟨x, 0, none⟩) c c)).setCell (p := ⟨b5, 0, none⟩) (by show b3 ≤ b5; omega) (.int .i64 0)⟩
  case hdone =>
    clear HL
    rintro D0 xs W hD hxs HLW hK
    have hK' := hide hK
    have HL := hide HLW
    have HXS := hide hxs
    clear hxs hK HLW
    obtain ⟨y0, f0, l0⟩ := HL.out.one.oneS
    obtain ⟨z0, f1, l1⟩ := HL.out.two.oneS
    go_wp2_with fail
    obtain ⟨V, hV⟩ : ∃ z, z = (W.setCell ⟨b4, 0, none⟩ (.slice none 0 0)).setCell ⟨b5, 0, none⟩ (.int .i64 3) := ⟨_, rfl⟩
    try rw [← hV]
    have HY4 := hide (show Box V b4 22 #[.slice none 0 0] by rw [hV]; exact (HL.out.one.oneSput (.slice none 0 0)).other (p := ⟨b5, 0, none⟩) (by show b4 ≠ b5; omega) (.int .i64 3))
    have HY5 := hide (show Box V b5 28 #[.int .i64 3] by rw [hV]; exact (HL.out.two.other (p := ⟨b4, 0, none⟩) (by show b5 ≠ b4; omega) (.slice none 0 0)).oneSput (.int .i64 3))
    have HBV := hide (show Below b3 w V by rw [hV]; exact (HL.out.below.setCell (p := ⟨b4, 0, none⟩) (by show b3 ≤ b4; omega) (.slice none 0 0)).setCell (p := ⟨b5, 0, none⟩) (by show b3 ≤ b5; omega) (.int .i64 3))
    have hKV : V.heap[D0]? = some (.deferred (some [])) := by rw [hV]; exact ((Below.heap_setCell _ _ _ _ (by have := bn.lt; show D0 ≠ b5; omega)).trans (Below.heap_setCell _ _ _ _ (by have := bn.lt; show D0 ≠ b4; omega))).trans hK'.out
    have hg := grownBy_putObj' V D0 (.deferred none)
    have hrow : ∀ r, some D0 = some r → b3 ≤ r ∧ ∃ o : Obj, V.heap[r]? = some o ∧ o.isCells = false := fun r e => by cases e; exact ⟨by have := bn.lt; omega, _, hKV, rfl⟩
    obtain ⟨x4, -, -⟩ := (HY4.out.roundly hg fun r e => (hrow r e).2).oneS
    obtain ⟨x5, -, -⟩ := (HY5.out.roundly hg fun r e => (hrow r e).2).oneS
    have hbl := HBV.out.grown hg (by have := HY4.out.lt; omega) fun r e => (hrow r e).1
    refine ⟨by simp, .inl ⟨_, _, rfl, run_takeDeferred hKV, ?_⟩⟩
    refine ⟨.tuple #[.slice none 0 0, .int .i64 3], by simp [results, Try.results36, go_sem, x4, x5], ?_⟩
    rw [← HQ.out]
    exact ⟨hb3 ▸ hbl, .inr ⟨by have := HL.out.none_; rw [HXS.out] at this; exact this, rfl⟩⟩
  case hstop =>
    clear HL
    rintro D0 xs V hD - ⟨pre, x, rfl, HH⟩ hKV
    have HL := hide HH
    clear HH
    refine wpIn_ret ?_
    have hg := grownBy_putObj' V D0 (.deferred none)
    have hrow : ∀ r, some D0 = some r → b3 ≤ r ∧ ∃ o : Obj, V.heap[r]? = some o ∧ o.isCells = false := fun r e => by cases e; exact ⟨by have := bn.lt; omega, _, hKV, rfl⟩
    obtain ⟨x4, -, -⟩ := (HL.out.one.roundly hg fun r e => (hrow r e).2).oneS
    obtain ⟨x5, -, -⟩ := (HL.out.two.roundly hg fun r e => (hrow r e).2).oneS
    have hbl := HL.out.below.grown hg (by have := HL.out.one.lt; omega) fun r e => (hrow r e).1
    refine ⟨by simp, .inl ⟨_, _, rfl, run_takeDeferred hKV, ?_⟩⟩
    refine ⟨.tuple #[.slice (some ⟨x, 0, none⟩) c c, .int .i64 0], by simp [results, Try.results36, go_sem, x4, x5], ?_⟩
    rw [← HQ.out]
    exact ⟨hb3 ▸ hbl, .inl ⟨pre.length, x, HL.out.small, HL.out.hit, HL.out.none_, rfl, ((HL.out.told.2.weak (Nat.zero_le _)).roundly hg fun r e => (hrow r e).2)⟩⟩
end Go.Proofs.Ytonmkmaeohfjpaa
/- The walk of SymbolLevels. -/
namespace Go.Proofs.Ytonmkmaeohfjpaa
open Go Go.RowKit Go.Lib Ieee
theorem sign_eq {a b p q : Int} (ha : IsBit a) (hb : IsBit b) (hp : 0 < p) (hq : 0 < q) (h : (1 - 2 * a) * p = (1 - 2 * b) * q) : a = b ∧ p = q := by
  rcases ha with rfl | rfl <;> rcases hb with rfl | rfl
  · exact ⟨rfl, by omega⟩
  · exfalso; omega
  · exfalso; omega
  · exact ⟨rfl, by omega⟩
theorem lvl1_inj {F G : Nat → Int} (h : lvl 1 F = lvl 1 G) : F 0 = G 0 := by
  have h2 : 1 - 2 * F 0 = 1 - 2 * G 0 := h
  omega
theorem lvl2_inj {F G : Nat → Int} (hF : ∀ j, j < 2 → IsBit (F j)) (hG : ∀ j, j < 2 → IsBit (G j)) (h : lvl 2 F = lvl 2 G) : F 0 = G 0 ∧ F 1 = G 1 := by
  rw [lvl_two, lvl_two] at h
  have a := lvl1_le (F := fun j => F (j + 1)) fun j hj => hF (j + 1) (by omega)
  have b := lvl1_le (F := fun j => G (j + 1)) fun j hj => hG (j + 1) (by omega)
  obtain ⟨h1, h2⟩ := sign_eq (hF 0 (by decide)) (hG 0 (by decide)) (by omega) (by omega) h
  exact ⟨h1, lvl1_inj (F := fun j => F (j + 1)) (G := fun j => G (j + 1)) (by omega)⟩
theorem lvl3_inj {F G : Nat → Int} (hF : ∀ j, j < 3 → IsBit (F j)) (hG : ∀ j, j < 3 → IsBit (G j)) (h : lvl 3 F = lvl 3 G) : F 0 = G 0 ∧ F 1 = G 1 ∧ F 2 = G 2 := by
  rw [lvl_three, lvl_three] at h
  have a := lvl2_le (F := fun j => F (j + 1)) fun j hj => hF (j + 1) (by omega)
  have b := lvl2_le (F := fun j => G (j + 1)) fun j hj => hG (j + 1) (by omega)
  obtain ⟨h1, h2⟩ := sign_eq (hF 0 (by decide)) (hG 0 (by decide)) (by omega) (by omega) h
  have h3 := lvl2_inj (F := fun j => F (j + 1)) (G := fun j => G (j + 1)) (fun j hj => hF (j + 1) (by omega)) (fun j hj => hG (j + 1) (by omega)) (by omega)
  exact ⟨h1, h3.1, h3.2⟩
theorem lvl_inj {c : Nat} {F G : Nat → Int} (h1 : 1 ≤ c) (h3 : c ≤ 3) (hF : ∀ j, j < c → IsBit (F j)) (hG : ∀ j, j < c → IsBit (G j)) (h : lvl c F = lvl c G) : ∀ j, j < c → F j = G j := by
  obtain rfl | rfl | rfl : c = 1 ∨ c = 2 ∨ c = 3 := by omega
  · intro j hj
    obtain rfl : j = 0 := by omega
    exact lvl1_inj h
  · have := lvl2_inj hF hG h
    intro j hj
    obtain rfl | rfl : j = 0 ∨ j = 1 := by omega
    · exact this.1
    · exact this.2
  · have := lvl3_inj hF hG h
    intro j hj
    obtain rfl | rfl | rfl : j = 0 ∨ j = 1 ∨ j = 2 := by omega
    · exact this.1
    · exact this.2.1
    · exact this.2.2
theorem lab_ex {c : Nat} {F : Nat → Int} (h1 : 1 ≤ c) (h3 : c ≤ 3) (hF : ∀ j, j < c → IsBit (F j)) : ∃ n, n < 2 ^ c ∧ ∀ j, j < c → labF c n j = F j := by
  obtain rfl | rfl | rfl : c = 1 ∨ c = 2 ∨ c = 3 := by omega
  · have a := hF 0 (by decide)
    refine ⟨(F 0).toNat, by rcases a with a | a <;> rw [a] <;> decide, fun j hj => ?_⟩
    obtain rfl : j = 0 := by omega
    rcases a with a | a <;> rw [a] <;> decide
  · have a := hF 0 (by decide)
    have b := hF 1 (by decide)
    refine ⟨(F 0).toNat * 2 + (F 1).toNat, by rcases a with a | a <;> rcases b with b | b <;> rw [a, b] <;> decide, fun j hj => ?_⟩
    obtain rfl | rfl : j = 0 ∨ j = 1 := by omega
    · rcases a with a | a <;> rcases b with b | b <;> rw [a, b] <;> decide
    · rcases a with a | a <;> rcases b with b | b <;> rw [a, b] <;> decide
  · have a := hF 0 (by decide)
    have b := hF 1 (by decide)
    have d := hF 2 (by decide)
    refine ⟨(F 0).toNat * 4 + (F 1).toNat * 2 + (F 2).toNat, by rcases a with a | a <;> rcases b with b | b <;> rcases d with d | d <;> rw [a, b, d] <;> decide, fun j hj => ?_⟩
    obtain rfl | rfl | rfl : j = 0 ∨ j = 1 ∨ j = 2 := by omega
    · rcases a with a | a <;> rcases b with b | b <;> rcases d with d | d <;> rw [a, b, d] <;> decide
    · rcases a with a | a <;> rcases b with b | b <;> rcases d with d | d <;> rw [a, b, d] <;> decide
    · rcases a with a | a <;> rcases b with b | b <;> rcases d with d | d <;> rw [a, b, d] <;> decide
theorem lvl_same {c : Nat} {F G : Nat → Int} (h1 : 1 ≤ c) (h3 : c ≤ 3) (h : ∀ j, j < c → F j = G j) : lvl c F = lvl c G := by
  obtain rfl | rfl | rfl : c = 1 ∨ c = 2 ∨ c = 3 := by omega
  · show 1 - 2 * F 0 = 1 - 2 * G 0
    rw [h 0 (by decide)]
  · show (1 - 2 * F 0) * (2 ^ 1 - (1 - 2 * F 1)) = (1 - 2 * G 0) * (2 ^ 1 - (1 - 2 * G 1))
    rw [h 0 (by decide), h 1 (by decide)]
  · show (1 - 2 * F 0) * (2 ^ 2 - (1 - 2 * F 1) * (2 ^ 1 - (1 - 2 * F 2))) = (1 - 2 * G 0) * (2 ^ 2 - (1 - 2 * G 1) * (2 ^ 1 - (1 - 2 * G 2)))
    rw [h 0 (by decide), h 1 (by decide), h 2 (by decide)]
/-- Code and reference give the same bits of a level. -/
theorem bitsBoth (k v : Int) : ∃ (l : Nat) (E : Int) (G : Nat → Int), l ≤ 3 ∧ (∀ w, Calls Try.prog 36 #[.int .i64 k, .int .i64 v] w fun e w' => ∃ A d, e = .returned (.tuple #[.slice A l d, .int .i64 E]) ∧ IntsAt w' 0 A l G ∧ Below w.heap.size w w') ∧
    (∀ w, Calls Try.prog 37 #[.int .i64 k, .int .i64 v] w fun e w' => ∃ A d, e = .returned (.tuple #[.slice A l d, .int .i64 E]) ∧ IntsAt w' 0 A l G ∧ Below w.heap.size w w') := by
  by_cases hk : 1 ≤ k ∧ k ≤ 3
  case neg =>
    exact ⟨0, 2, fun _ => 0, by decide, fun w => (BitsOf_wrong k v w hk).mono fun e w' ⟨h1, h2⟩ => ⟨_, _, h1, IntsAt.nil_, h2⟩, fun w => (BitsOfR_wrong k v w hk).mono fun e w' ⟨h1, h2⟩ => ⟨_, _, h1, IntsAt.nil_, h2 ▸ Below.refl _ _⟩⟩
  obtain ⟨c, rfl⟩ : ∃ c : Nat, k = (c : Int) := ⟨k.toNat, by omega⟩
  have h1 : 1 ≤ c := by omega
  have h3 : c ≤ 3 := by omega
  rcases first_ex (fun n => lvl c (labF c n) = v) (2 ^ c) with ⟨n, hn, hv, hb⟩ | hb
  · refine ⟨c, 0, labF c n, h3, fun w => (BitsOf_right c v w h1 h3).mono ?_, fun w => (BitsOfR_hit c n v w h1 h3 hn hb hv).mono fun e w' ⟨g, e1, e2, e3⟩ => ⟨_, _, e1, e2, e3⟩⟩
    rintro e w' ⟨hB, ⟨m, g, hm, hmv, hmb, e1, hI⟩ | ⟨hmb, -⟩⟩
    · obtain rfl : m = n := by
        rcases Nat.lt_trichotomy m n with h | h | h
        · exact absurd hmv (hb m h)
        · exact h
        · exact absurd hv (hmb n h)
      exact ⟨_, _, e1, hI, hB⟩
    · exact absurd hv (hmb n hn)
  · refine ⟨0, 3, fun _ => 0, by decide, fun w => (BitsOf_right c v w h1 h3).mono ?_, fun w => (BitsOfR_miss c v w h1 h3 hb).mono fun e w' ⟨e1, e3⟩ => ⟨_, _, e1, IntsAt.nil_, e3⟩⟩
    rintro e w' ⟨hB, ⟨m, g, hm, hmv, hmb, e1, hI⟩ | ⟨hmb, e1⟩⟩
    · exact absurd hmv (hb m hm)
    · exact ⟨_, _, e1, IntsAt.nil_, hB⟩
theorem bitsBack (c : Nat) (F : Nat → Int) (w : World) (h1 : 1 ≤ c) (h3 : c ≤ 3) (hF : ∀ j, j < c → IsBit (F j)) :
    Calls Try.prog 36 #[.int .i64 (c : Int), .int .i64 (lvl c F)] w fun e w' => ∃ A d, e = .returned (.tuple #[.slice A c d, .int .i64 0]) ∧ IntsAt w' 0 A c F ∧ Below w.heap.size w w' := by
  refine (BitsOf_right c (lvl c F) w h1 h3).mono ?_
  rintro e w' ⟨hB, ⟨m, g, hm, hmv, hmb, e1, hI⟩ | ⟨hmb, e1⟩⟩
  · exact ⟨_, _, e1, hI.congr fun j hj => lvl_inj h1 h3 (fun j _ => labF_bit c m j) hF hmv j hj, hB⟩
  · obtain ⟨n, hn, he⟩ := lab_ex h1 h3 hF
    exact absurd (lvl_same h1 h3 he) (hmb n hn)
set_option maxHeartbeats 4000000 in
set_option maxRecDepth 100000 in
theorem LevelOfP_wrong (A : Option Addr) (n c : Nat) (F : Nat → Int) (w : World) (hn : n ≤ 100000) (hI : IntsAt w 0 A n F) (hE : bitE n F 3 ≠ 0) :
    Calls Try.prog 38 #[.slice A n c] w fun e w' => e = .returned (.tuple #[.int .i64 0, .int .i64 (bitE n F 3)]) ∧ Below w.heap.size w w' := by
  have HBE := hide (bitsError_any A n c F 3 w hn hI)
  obtain ⟨r, hr⟩ : ∃ z, bitE n F 3 = z := ⟨_, rfl⟩
  rw [hr] at hE HBE ⊢
  have t2 : (r != 0) = true := by simpa using hE
  clear hr hI
  go_enter Try.func38, Try.ntmps38
  go_wp2_with (go_at_call 82; refine HBE.out.mono ?_; rintro e_ w2 ⟨rfl, q, hq⟩; have hb : Below w.heap.size w w2 := (by rw [hq]; exact Go.below_drewN (Below.refl _ _) _); clear hq)
  go_ret2
  exact ⟨rfl, hb⟩
set_option maxHeartbeats 4000000 in
set_option maxRecDepth 100000 in
theorem LevelOfP_right (b o n c : Nat) (F : Nat → Int) (w : World) (h1 : 1 ≤ n) (h3 : n ≤ 3) (hc : n ≤ c) (hc9 : c ≤ 9223372036854775807) (hF : ∀ j, j < n → IsBit (F j)) (hI : IntsAt w 0 (some ⟨b, o, none⟩) n F) (hE : bitE n F 3 = 0) :
    Calls Try.prog 38 #[.slice (some ⟨b, o, none⟩) n c] w fun e w' => e = .returned (.tuple #[.int .i64 (lvl n F), .int .i64 0]) ∧ Below w.heap.size w w' := by
  have HBE := hide (bitsError_any (some ⟨b, o, none⟩) n c F 3 w (by omega) hI)
  have HLV := hide (fun W (h : IntsAt W 0 (some ⟨b, o, none⟩) n F) => levelOf_any b o c n F W h1 h3 hc hc9 hF h)
  have HI := hide hI
  rw [hE] at HBE
  obtain ⟨y, hy⟩ : ∃ z, lvl n F = z := ⟨_, rfl⟩
  rw [hy] at HLV ⊢
  clear hI hy hE hF
  go_enter Try.func38, Try.ntmps38
  go_wp2_with (go_at_call 82; refine HBE.out.mono ?_; rintro e_ w2 ⟨rfl, q, hq⟩; have hb : Below w.heap.size w w2 := (by rw [hq]; exact Go.below_drewN (Below.refl _ _) _); clear hq)
  refine (HLV.out _ (HI.out.below hb)).mono ?_
  rintro e_ w3 ⟨rfl, hb3⟩
  go_wp2_with fail
  go_ret2
  exact ⟨rfl, hb.trans (hb3.mono hb.size)⟩
set_option maxHeartbeats 32000000 in
set_option maxRecDepth 100000 in
theorem symbolLevels_walk (A : Option Addr) (n c : Nat) (F : Nat → Int) (k v : Int) (w : World) (hn : n ≤ 9223372036854775807) (hnc : n ≤ c) (hc9 : c ≤ 9223372036854775807) (hF : IntsAt w 0 A n F) :
    Calls Try.prog 6 #[.slice A n c, .int .i64 k, .int .i64 v] w fun e w' => e = .returned (.bool true) ∧ Below w.heap.size w w' := by
  have HB := hide (Below.refl w.heap.size w)
  have HFF := hide hF
  clear hF
  obtain ⟨l, E, G, hl3, hP, hR⟩ := bitsBoth k v
  have HP := hide hP
  have HR := hide hR
  clear hP hR
  go_enter Try.func6, Try.ntmps6
  go_wp2_with fail
  refine (awakeS_any _).mono ?_
  rintro e_ v1 ⟨rfl, hb1⟩
  replace HFF := hide (HFF.out.below hb1)
  replace HB := hide (HB.out.trans (hb1.mono HB.out.size))
  clear hb1
  by_cases hn6 : n ≤ 6
  case neg =>
    have hz : (6 : Int) < (n : Int) := by omega
    go_wp2_with fail
    go_ret
    exact ⟨rfl, HB.out⟩
  have hz : ¬ (6 : Int) < (n : Int) := by omega
  go_wp2_with fail
  refine (HP.out _).mono ?_
  rintro e_ v2 ⟨Ab, db, rfl, hib, hb2⟩
  replace HFF := hide (HFF.out.below hb2)
  replace HB := hide (HB.out.trans (hb2.mono HB.out.size))
  clear hb2
  have HIB := hide hib
  clear hib
  go_wp2_with fail
  refine (HR.out _).mono ?_
  rintro e_ v3 ⟨Aw, dw, rfl, hiw, hb3⟩
  replace HFF := hide (HFF.out.below hb3)
  replace HIB := hide (HIB.out.below hb3)
  replace HB := hide (HB.out.trans (hb3.mono HB.out.size))
  clear hb3
  have HIW := hide hiw
  clear hiw
  go_wp2_with fail
  have HIN := hide (ints_any Ab Aw l l db dw G G _ (by omega) (by omega) HIB.out HIW.out)
  rw [show intsB l G l G = true from intsB_iff.2 ⟨rfl, fun _ _ => rfl⟩] at HIN
  refine (HIN.out).mono ?_
  rintro e_ v4 ⟨rfl, q4, hq4⟩
  have hb4 : Below v3.heap.size v3 v4 := by rw [hq4]; exact Go.below_drewN (Below.refl _ _) _
  clear hq4
  replace HFF := hide (HFF.out.below hb4)
  replace HIB := hide (HIB.out.below hb4)
  replace HIW := hide (HIW.out.below hb4)
  replace HB := hide (HB.out.trans (hb4.mono HB.out.size))
  clear hb4
  clear HIN HP HR
  clear HIB HIW
  go_wp2_with fail
  have HCI := hide (fun W h => copyInts_own A n c F W (by omega) h)
  refine (HCI.out _ HFF.out).mono ?_
  rintro e_ v5 ⟨vc, rfl, hoc, hb5⟩
  obtain ⟨Ac, cc, rfl, hcc, hic⟩ := hoc.form
  have hcm := hoc.cap_any
  replace HFF := hide (HFF.out.below hb5)
  replace HB := hide (HB.out.trans (hb5.mono HB.out.size))
  clear hb5
  have HIC := hide (hic.weak (Nat.zero_le _))
  clear hoc hic HCI
  go_wp2_with fail
  have HLE := hide (fun W (h : IntsAt W 0 A n F) => LevelErr_any A n c F W (by omega) h)
  by_cases hE : bitE n F 3 = 0
  case neg =>
    have HLW := hide (LevelOfP_wrong Ac n cc F _ (by omega) HIC.out hE)
    obtain ⟨r, hr⟩ : ∃ z, bitE n F 3 = z := ⟨_, rfl⟩
    rw [hr] at hE HLW
    simp only [hr] at HLE
    have t2 : (r != 0) = true := by simpa using hE
    clear hr
    refine (HLW.out).mono ?_
    rintro e_ v6 ⟨rfl, hb6⟩
    replace HFF := hide (HFF.out.below hb6)
    replace HIC := hide (HIC.out.below hb6)
    replace HB := hide (HB.out.trans (hb6.mono HB.out.size))
    clear hb6
    go_wp2_with fail
    clear HLW
    refine (HLE.out _ HFF.out).mono ?_
    rintro e_ v7 ⟨rfl, q7, hq7⟩
    have hb7 : Below v6.heap.size v6 v7 := by rw [hq7]; exact Go.below_drewN (Below.refl _ _) _
    clear hq7
    replace HFF := hide (HFF.out.below hb7)
    replace HIC := hide (HIC.out.below hb7)
    replace HB := hide (HB.out.trans (hb7.mono HB.out.size))
    clear hb7
    go_wp2_with fail
    go_ret
    exact ⟨rfl, HB.out⟩
  have hn0 : 0 < n := by
    rcases Nat.eq_zero_or_pos n with h | h
    · unfold bitE at hE; rw [if_pos h] at hE; exact absurd hE (by decide)
    · exact h
  have hn3 : n ≤ 3 := by
    by_cases h : n ≤ 3
    · exact h
    · unfold bitE at hE; rw [if_neg (by omega), if_pos (show (3 : Int) < (n : Int) by omega)] at hE; exact absurd hE (by decide)
  have HBT := hide (show ∀ j, j < n → IsBit (F j) from by
    unfold bitE at hE
    rw [if_neg (by omega), if_neg (show ¬ (3 : Int) < (n : Int) by omega)] at hE
    unfold unI at hE
    by_cases hb : bitsB n F = true
    · exact bitsB_iff.1 hb
    · rw [if_neg hb] at hE; exact absurd hE (by decide))
  obtain ⟨b1, o1, rfl⟩ := intsAt_some HFF.out hn0
  obtain ⟨b2, o2, rfl⟩ := intsAt_some HIC.out hn0
  have HLR := hide (LevelOfP_right b2 o2 n cc F _ hn0 hn3 hcm.1 hcm.2 HBT.out HIC.out hE)
  simp only [hE] at HLE
  have HRR := hide (fun W (h : IntsAt W 0 (some ⟨b1, o1, none⟩) n F) => LevelOfR_any b1 o1 c n F W hn0 hn3 hnc hc9 HBT.out h)
  have HBK := hide (fun W => bitsBack n F W hn0 hn3 HBT.out)
  obtain ⟨y, hy⟩ : ∃ z, lvl n F = z := ⟨_, rfl⟩
  rw [hy] at HLR HRR HBK
  clear hy hE
  refine (HLR.out).mono ?_
  rintro e_ v8 ⟨rfl, hb8⟩
  replace HFF := hide (HFF.out.below hb8)
  replace HIC := hide (HIC.out.below hb8)
  replace HB := hide (HB.out.trans (hb8.mono HB.out.size))
  clear hb8
  go_wp2_with fail
  clear HLR
  clear HIC
  refine (HLE.out _ HFF.out).mono ?_
  rintro e_ v9 ⟨rfl, q9, hq9⟩
  have hb9 : Below v8.heap.size v8 v9 := by rw [hq9]; exact Go.below_drewN (Below.refl _ _) _
  clear hq9
  replace HFF := hide (HFF.out.below hb9)
  replace HB := hide (HB.out.trans (hb9.mono HB.out.size))
  clear hb9
  clear HLE
  go_wp2_with fail
  refine (HRR.out _ HFF.out).mono ?_
  rintro e_ v_ ⟨rfl, rfl⟩
  go_wp2_with fail
  clear HRR
  refine (HBK.out _).mono ?_
  rintro e_ v10 ⟨Az, dz, rfl, hiz, hb10⟩
  replace HFF := hide (HFF.out.below hb10)
  replace HB := hide (HB.out.trans (hb10.mono HB.out.size))
  clear hb10
  have HIZ := hide hiz
  clear hiz
  go_wp2_with fail
  clear HBK
  have HIN := hide (ints_any Az _ n n dz c F F _ (by omega) (by omega) HIZ.out HFF.out)
  rw [show intsB n F n F = true from intsB_iff.2 ⟨rfl, fun _ _ => rfl⟩] at HIN
  refine (HIN.out).mono ?_
  rintro e_ v11 ⟨rfl, q11, hq11⟩
  have hb11 : Below v10.heap.size v10 v11 := by rw [hq11]; exact Go.below_drewN (Below.refl _ _) _
  clear hq11
  replace HFF := hide (HFF.out.below hb11)
  replace HIZ := hide (HIZ.out.below hb11)
  replace HB := hide (HB.out.trans (hb11.mono HB.out.size))
  clear hb11
  clear HIN
  go_wp2_with fail
  go_ret
  exact ⟨rfl, HB.out⟩
end Go.Proofs.Ytonmkmaeohfjpaa
