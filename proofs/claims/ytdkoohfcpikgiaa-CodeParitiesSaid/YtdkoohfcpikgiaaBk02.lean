/- Lemmas: Fg, Ej, Ga, Gc, La, Ha, Hb, Eb, Ee, Ef, Ed, Ei, Ek, Ec. -/
import Derived.Lib.AppendZeros
import Derived.Test.YtdkoohfcpikgiaaBk01
set_option linter.unusedVariables false
set_option linter.unusedSimpArgs false
/- base.AreBits -/
namespace Go.Proofs.Ytdkoohfcpikgiaa
open Go.RowKit
set_option maxHeartbeats 1000000 in
theorem areBitsB_any (A : Option Addr) (n c : Nat) (F : Nat → Int) (w : World) (hn : n ≤ 100000) (hI : IntsAt w 0 A n F) :
    Calls Try.prog 21 #[.slice A n c] w fun e w' => e = .returned (.bool (bitsB n F)) ∧ ∃ q, w' = w.drewN q := by
  have HI := hide hI
  clear hI
  go_enter Try.func21, Try.ntmps21
  go_wp2_with fail
  go_loopw [3] (fun i wr => ∃ k q : Nat, k ≤ n ∧ i = .int .i64 k ∧ wr = w.drewN q ∧ Hid (∀ j, j < k → IsBit (F j))) (fun i _ => n - (intOf i).toNat)
  case atStart => exact ⟨0, 0, Nat.zero_le _, rfl, rfl, hide fun j h => absurd h (Nat.not_lt_zero _)⟩
  case round =>
    obtain ⟨k, q, hk, rfl, rfl, HZ⟩ := hrel
    by_cases hlt : k < n
    · have hltz : (k : Int) < (n : Int) := by omega
      obtain ⟨b, o, rfl, -, hb, hcell⟩ := HI.out k hlt
      by_cases h0 : F k = 0
      · have t1 : (F k != 0) = false := by simpa using h0
        have HB := hide (show IsBit (F k) from .inl h0)
        clear h0
        go_wp2_with fail
        go_roundw
        case rel => exact ⟨k + 1, q, by omega, by go_num, rfl, hide fun j hj => (by
          rcases Nat.lt_or_ge j k with h | h
          · exact HZ.out j h
          · obtain rfl : j = k := by omega
            exact HB.out)⟩
        case measure => simp [intOf]; omega
      · have t1 : (F k != 0) = true := by simpa using h0
        by_cases h1 : F k = 1
        · have t2 : (F k != 1) = false := by simpa using h1
          have HB := hide (show IsBit (F k) from .inr h1)
          clear h0 h1
          go_wp2_with fail
          go_roundw
          case rel => exact ⟨k + 1, q, by omega, by go_num, rfl, hide fun j hj => (by
            rcases Nat.lt_or_ge j k with h | h
            · exact HZ.out j h
            · obtain rfl : j = k := by omega
              exact HB.out)⟩
          case measure => simp [intOf]; omega
        · have t2 : (F k != 1) = true := by simpa using h1
          have HB := hide (show bitsB n F = false from by
            rw [← Bool.not_eq_true, bitsB_iff]
            intro h
            have := h k hlt
            unfold IsBit at this
            omega)
          clear h0 h1
          go_wp2_with fail
          go_ret
          exact ⟨ret_bool HB.out.symm, q, rfl⟩
    · obtain rfl : k = n := by omega
      go_wp2_with fail
      go_ret
      exact ⟨ret_bool (bitsB_iff.2 HZ.out).symm, q, rfl⟩
end Go.Proofs.Ytdkoohfcpikgiaa
/- exploring: Grow, Concat, CopyInts -/
namespace Go.Proofs.Ytdkoohfcpikgiaa
open Go.RowKit Go.Lib
set_option maxHeartbeats 1000000 in
theorem copyInts_any (A : Option Addr) (n c : Nat) (F : Nat → Int) (w : World) (hn : n ≤ 100000000) (hI : IntsAt w 0 A n F) :
    Calls Try.prog 11 #[.slice A n c] w fun e w' => ∃ v, e = .returned v ∧ GaveInts w n F v w' := by
  go_enter Try.func11, Try.ntmps11
  go_wp2_with (at_builtin; refine wpList_append_ints _ rfl (.tmp 3) (.tmp 4) rfl w.heap.size 0 (.slice (some ⟨w.heap.size, 0, none⟩) 0 0) 0 F rfl (World.ownsRow_made w #[] 0 (Nat.le_refl _) (by unfold maxLen; omega) rfl) A n c F rfl (hI.alloc _) (by omega) (by simp) ?_; intro v' w' h1 hb1)
  go_ret
  have hB : Below w.heap.size w w' := ((Below.refl _ _).alloc (Nat.le_refl _) _).trans hb1
  rw [Nat.zero_add] at h1
  exact ⟨_, rfl, (h1.congr fun j _ => by simp [catF]).gave hB⟩
theorem wpList_grow_ints {ops : Array Oper} {rest : List Oper} {o : Oper} {a : Act} {Q : Exit → Act → World → Prop} (w : World) (hgd : o.guard = none) (s x : Operand)
    (ho : o.op = .call { callee := .builtin .append, args := #[s, x], argTypes := #[25, 3] })
    (n : Nat) (h0 : 0 < n) (hn : n ≤ 1000000000) (hs : a.eval s = .slice none 0 0) (hx : a.eval x = .int .i64 (n : Int))
    (h : ∀ cap w', n ≤ cap → cap ≤ maxLen → OwnInts w' w.heap.size (.slice (some ⟨w.heap.size, 0, none⟩) 0 cap) 0 (fun _ => 0) → Below w.heap.size w w' →
      wpList Try.prog ops Q rest (a.put o.dst (.slice (some ⟨w.heap.size, 0, none⟩) n cap)) w') : wpList Try.prog ops Q (o :: rest) a w := by
  obtain ⟨i0, hi, hz0, hz1, hz2⟩ := info_parts intInfo
  have hrun := fun ty => run_append_nil_zeros (P := Try.prog) w 25 3 ty 3 i0 (.int .i64 0) .i64 .i64 Try.underlying25 Try.underlying3 hi hz0 n h0 (by omega) (by omega) (by rw [hz2]; omega)
  refine wpList_plain hgd fun K hK => ?_
  unfold Oper.wp execOp
  simp only [ho, resolve, invoke, builtin, Sem.run_bind, Sem.run_pure, Result.andThen_ok, List.map_toArray, List.map_cons, List.map_nil, hs, hx, hrun]
  have hge := grownCap_ge w n 0 3
  have hle := grownCap_le_maxLen w n 0 3 (by unfold maxLen; omega)
  refine hK _ _ (h _ _ hge hle ?_ ?_)
  · exact World.ownsRow_made w.drew _ (grownCap w n 0 3) (Nat.le_refl _) hle (by
      rw [Array.size_append, size_zeroCells, size_zeroCells]
      show n * 1 + (grownCap w n 0 3 - n) * 1 = _
      omega)
  · exact (Below.refl _ _).drew.alloc (Nat.le_refl _) _

set_option maxHeartbeats 1000000 in
theorem grow_any (n : Nat) (w : World) (hn : n ≤ 100000000) :
    Calls Try.prog 69 #[.slice none 0 0, .int .i64 (n : Int)] w fun e w' => ∃ v, e = .returned v ∧ OwnInts w' w.heap.size v 0 (fun _ => 0) ∧ Below w.heap.size w w' := by
  by_cases h0 : n = 0
  · subst h0
    go_enter Try.func69, Try.ntmps69
    go_wp2_with fail
    go_ret
    exact ⟨_, rfl, OwnInts.nil_ _ _ _, by (repeat (first | (with_reducible exact Below.refl _ _) | (with_reducible refine below_drewN ?_ _) | (with_reducible refine Below.drew ?_) | (with_reducible refine Below.alloc ?_ (by first | exact Nat.le_refl _ | (simp; done) | (simp; omega) | omega) _) | (with_reducible refine Below.setCell ?_ (by first | exact Nat.le_refl _ | (simp; done) | (simp; omega) | omega) _)))⟩
  · have hn0 : 0 < n := by omega
    have hn1 : (0 : Int) < (n : Int) := by omega
    clear h0
    go_enter Try.func69, Try.ntmps69
    go_wp2_with (at_builtin; refine wpList_grow_ints _ rfl (.tmp 20) (.tmp 21) rfl n hn0 (by omega) rfl rfl ?_; intro cap w' hc1 hc2 hown hb)
    go_ret
    exact ⟨_, rfl, hown, hb⟩

end Go.Proofs.Ytdkoohfcpikgiaa
/- Mod, power, small, kindErr, BitsErr, Length, CopyPolar of the reference and the law. -/
namespace Go.Proofs.Ytdkoohfcpikgiaa
open Go.RowKit

def bitsErrR (n : Nat) (F : Nat → Int) : Int := if n = 0 then 10 else if 200 < n then 8 else if bitsB n F = true then 0 else 15
theorem bitsErrR_zero {n : Nat} {F : Nat → Int} (h : bitsErrR n F = 0) : 0 < n ∧ n ≤ 200 ∧ ∀ k, k < n → IsBit (F k) := by
  unfold bitsErrR at h
  by_cases h1 : n = 0
  · rw [if_pos h1] at h; exact absurd h (by decide)
  · rw [if_neg h1] at h
    by_cases h2 : 200 < n
    · rw [if_pos h2] at h; exact absurd h (by decide)
    · rw [if_neg h2] at h
      by_cases h3 : bitsB n F = true
      · exact ⟨by omega, by omega, bitsB_iff.1 h3⟩
      · rw [if_neg h3] at h; exact absurd h (by decide)

set_option maxHeartbeats 400000 in
theorem kindErr_any (A : Option Addr) (n c : Nat) (F : Nat → Int) (w : World) (hn : n ≤ 100000) (hI : IntsAt w 0 A n F) :
    Calls Try.prog 41 #[.slice A n c] w fun e w' => e = .returned (.int .i64 (if bitsB n F = true then 0 else 15)) ∧ ∃ q, w' = w.drewN q := by
  have HX := hide (areBitsB_any A n c F w hn hI)
  clear hI
  cases hb : bitsB n F
  · rw [hb] at HX
    have EQ := hide (show (if false = true then (0 : Int) else 15) = 15 from rfl)
    generalize (if false = true then (0 : Int) else 15) = R at *
    clear hb
    go_enter Try.func41, Try.ntmps41
    go_wp2_with (go_at_call 21; refine HX.out.mono ?_; rintro e w' ⟨rfl, q, rfl⟩)
    go_ret
    exact ⟨ret_int EQ.out.symm, q, rfl⟩
  · rw [hb] at HX
    have EQ := hide (show (if true = true then (0 : Int) else 15) = 0 from rfl)
    generalize (if true = true then (0 : Int) else 15) = R at *
    clear hb
    go_enter Try.func41, Try.ntmps41
    go_wp2_with (go_at_call 21; refine HX.out.mono ?_; rintro e w' ⟨rfl, q, rfl⟩)
    go_ret
    exact ⟨ret_int EQ.out.symm, q, rfl⟩

set_option maxHeartbeats 400000 in
theorem bitsErrR_any (A : Option Addr) (n c : Nat) (F : Nat → Int) (w : World) (hn : n ≤ 9223372036854775807) (hI : IntsAt w 0 A n F) :
    Calls Try.prog 15 #[.slice A n c] w fun e w' => e = .returned (.int .i64 (bitsErrR n F)) ∧ ∃ q, w' = w.drewN q := by
  by_cases h1 : n = 0
  · have EQ := hide (show bitsErrR n F = 10 from if_pos h1)
    subst h1
    clear hI
    go_enter Try.func15, Try.ntmps15
    go_wp2_with fail
    go_ret
    exact ⟨ret_int EQ.out.symm, 0, rfl⟩
  · have t1 : ((n : Int) == 0) = false := by simp; omega
    by_cases h2 : 200 < n
    · have EQ := hide (show bitsErrR n F = 8 from by unfold bitsErrR; rw [if_neg h1, if_pos h2])
      have t2 : decide ((200 : Int) < (n : Int)) = true := by simp; omega
      clear hI h1
      go_enter Try.func15, Try.ntmps15
      go_wp2_with fail
      go_ret
      exact ⟨ret_int EQ.out.symm, 0, rfl⟩
    · have EQ := hide (show bitsErrR n F = (if bitsB n F = true then 0 else 15) from by unfold bitsErrR; rw [if_neg h1, if_neg h2])
      have t2 : decide ((200 : Int) < (n : Int)) = false := by simp; omega
      have HX := hide (kindErr_any A n c F w (by omega) hI)
      generalize (if bitsB n F = true then (0 : Int) else 15) = R at *
      clear hI h1
      go_enter Try.func15, Try.ntmps15
      go_wp2_with (go_at_call 41; refine HX.out.mono ?_; rintro e w' ⟨rfl, q, rfl⟩)
      go_ret
      exact ⟨ret_int EQ.out.symm, q, rfl⟩

end Go.Proofs.Ytdkoohfcpikgiaa
/- CheckPolar of the reference -/
namespace Go.Proofs.Ytdkoohfcpikgiaa
open Go.RowKit
/-- The error of the position k. -/
def posErr (p : Nat) (F : Nat → Int) (k : Nat) : Int := if 0 ≤ F k ∧ F k ≤ 2 ^ p - 1 then (if 0 < k ∧ F k ≤ F (k - 1) then 9 else 0) else 2
/-- The first of some errors that is one. -/
def firstBad (g : Nat → Int) : Nat → Int
  | 0 => 0
  | n + 1 => if firstBad g n = 0 then g n else firstBad g n
theorem firstBad_at {g : Nat → Int} {k : Nat} (h : firstBad g k = 0) (hk : g k ≠ 0) : ∀ n, k < n → firstBad g n = g k
  | 0, hn => absurd hn (Nat.not_lt_zero _)
  | n + 1, hn => by
    show (if firstBad g n = 0 then g n else firstBad g n) = g k
    rcases Nat.lt_or_ge k n with h1 | h1
    · have := firstBad_at h hk n h1
      rw [this, if_neg hk]
    · obtain rfl : k = n := by omega
      rw [if_pos h]
theorem firstBad_all {g : Nat → Int} : ∀ {n : Nat}, firstBad g n = 0 → ∀ k, k < n → g k = 0
  | 0, _, k, hk => absurd hk (Nat.not_lt_zero _)
  | n + 1, h, k, hk => by
    unfold firstBad at h
    by_cases h0 : firstBad g n = 0
    · rw [if_pos h0] at h
      rcases Nat.lt_or_ge k n with h1 | h1
      · exact firstBad_all h0 k h1
      · obtain rfl : k = n := by omega
        exact h
    · rw [if_neg h0] at h; exact absurd h h0
theorem firstBad_succ {g : Nat → Int} {k : Nat} (h : firstBad g k = 0) : firstBad g (k + 1) = g k := by unfold firstBad; rw [if_pos h]

def polarErrI (p : Int) (n : Nat) (F : Nat → Int) : Int := if 0 ≤ p ∧ p ≤ 6 then (if n = 0 then 10 else firstBad (posErr p.toNat F) n) else 2
theorem polarOk_of {p : Int} {n : Nat} {F : Nat → Int} (h : polarErrI p n F = 0) : 0 ≤ p ∧ p ≤ 6 ∧ PolarOk p.toNat n F := by
  unfold polarErrI at h
  by_cases hp : 0 ≤ p ∧ p ≤ 6
  · rw [if_pos hp] at h
    by_cases hn : n = 0
    · rw [if_pos hn] at h; exact absurd h (by decide)
    · rw [if_neg hn] at h
      have ha := firstBad_all h
      have hr : ∀ k, k < n → 0 ≤ F k ∧ F k ≤ 2 ^ p.toNat - 1 := fun k hk => by
        have := ha k hk
        unfold posErr at this
        by_cases h1 : 0 ≤ F k ∧ F k ≤ 2 ^ p.toNat - 1
        · exact h1
        · rw [if_neg h1] at this; exact absurd this (by decide)
      refine ⟨hp.1, hp.2, by omega, by omega, hr, fun k hk => ?_⟩
      have := ha (k + 1) hk
      unfold posErr at this
      rw [if_pos (hr (k + 1) hk)] at this
      by_cases h2 : 0 < k + 1 ∧ F (k + 1) ≤ F (k + 1 - 1)
      · rw [if_pos h2] at this; exact absurd this (by decide)
      · rw [Nat.add_sub_cancel] at h2; omega
  · rw [if_neg hp] at h; exact absurd h (by decide)

end Go.Proofs.Ytdkoohfcpikgiaa
/- CheckPolar of the code, whatever comes in. -/
namespace Go.Proofs.Ytdkoohfcpikgiaa
open Go.RowKit
theorem posErr_two {p k : Nat} {F : Nat → Int} (h : ¬ (0 ≤ F k ∧ F k ≤ 2 ^ p - 1)) : posErr p F k = 2 := by unfold posErr; rw [if_neg h]
theorem posErr_nine {p k : Nat} {F : Nat → Int} (h : 0 ≤ F k ∧ F k ≤ 2 ^ p - 1) (h2 : F k ≤ beforeI F k) : posErr p F k = 9 := by
  unfold posErr
  rw [if_pos h]
  cases k with
  | zero => have : F 0 ≤ -1 := h2; omega
  | succ j => exact if_pos ⟨Nat.succ_pos _, h2⟩
theorem posErr_zero {p k : Nat} {F : Nat → Int} (h : 0 ≤ F k ∧ F k ≤ 2 ^ p - 1) (h2 : ¬ F k ≤ beforeI F k) : posErr p F k = 0 := by
  unfold posErr
  rw [if_pos h]
  cases k with
  | zero => exact if_neg (by omega)
  | succ j => exact if_neg (fun hh => h2 hh.2)
set_option maxHeartbeats 2000000 in
theorem checkPolar_any (p : Int) (A : Option Addr) (n c : Nat) (F : Nat → Int) (w : World) (hn : n ≤ 1000) (hI : IntsAt w 0 A n F) :
    Calls Try.prog 45 #[.agg #[.int .i64 p, .slice A n c]] w fun e w' => e = .returned (.int .i64 (polarErrI p n F)) ∧ Below w.heap.size w w' := by
  by_cases hp : 0 ≤ p ∧ p ≤ 6
  · obtain ⟨p, rfl⟩ := Int.eq_ofNat_of_zero_le hp.1
    obtain ⟨p1, p2⟩ := pow2_le p (by omega)
    by_cases hn0 : n = 0
    · have EQ := hide (show polarErrI (p : Int) n F = 10 from by unfold polarErrI; rw [if_pos hp, if_pos hn0])
      generalize polarErrI (p : Int) n F = R at *
      subst hn0
      have HW := hide (withinB_yes hp)
      clear hI hp
      go_enter Try.func45, Try.ntmps45
      go_wp2_with fail
      refine (isWithin_any _ _ _ _).mono ?_; rintro e w' ⟨rfl, rfl⟩
      rw [HW.out]
      go_wp2_with fail
      go_ret
      exact ⟨ret_int EQ.out.symm, by (repeat (first | (with_reducible exact Below.refl _ _) | (with_reducible refine below_drewN ?_ _) | (with_reducible refine Below.drew ?_) | (with_reducible refine Below.alloc ?_ (by first | exact Nat.le_refl _ | (simp; done) | (simp; omega) | omega) _) | (with_reducible refine Below.setCell ?_ (by first | exact Nat.le_refl _ | (simp; done) | (simp; omega) | omega) _)))⟩
    · have EQ := hide (show polarErrI (p : Int) n F = firstBad (posErr p F) n from by unfold polarErrI; rw [if_pos hp, if_neg hn0, Int.toNat_natCast])
      generalize polarErrI (p : Int) n F = R at *
      have HI := hide hI
      have hne : ((n : Int) == 0) = false := by simp; omega
      have HW := hide (withinB_yes hp)
      have hp6 : p ≤ 6 := by omega
      clear hI hp hn0
      go_enter Try.func45, Try.ntmps45
      go_wp2_with fail
      refine (isWithin_any _ _ _ _).mono ?_; rintro e w' ⟨rfl, rfl⟩
      rw [HW.out]
      go_wp2_with fail
      go_loopw [3, 17] (fun r i wr => ∃ k : Nat, k ≤ n ∧ i = .int .i64 k ∧ r = .int .i64 (beforeI F k) ∧ Hid (firstBad (posErr p F) k = 0) ∧ Box wr w.heap.size 55 #[.int .i64 (p : Int), .slice A n c] ∧ Below w.heap.size w wr) (fun _ i _ => n - (intOf i).toNat)
      case atStart => exact ⟨0, Nat.zero_le _, rfl, rfl, hide rfl, Box.made rfl, (Below.refl _ _).alloc (Nat.le_refl _) _⟩
      case round =>
        obtain ⟨k, hk, rfl, rfl, HZ, bx, hB⟩ := hrel
        have x0 := bx.at_ 0
        simp only [List.getElem?_toArray] at x0
        by_cases hlt : k < n
        · have hltz : (k : Int) < (n : Int) := by omega
          have hI := HI.out.below hB
          obtain ⟨b, o, rfl, -, hb, hcell⟩ := hI k hlt
          by_cases hr : 0 ≤ F k ∧ F k ≤ 2 ^ p - 1
          · have HWR := hide (withinB_yes hr)
            by_cases ho : F k ≤ beforeI F k
            · have HE := hide (show R = 9 from by rw [EQ.out, firstBad_at HZ.out (by rw [posErr_nine hr ho]; decide) n hlt, posErr_nine hr ho])
              have t1 : decide (F k ≤ beforeI F k) = true := by simpa using ho
              clear hr ho
              generalize F k = f at *
              generalize beforeI F k = g at *
              go_wp2_with fail
              refine (isWithin_any _ _ _ _).mono ?_; rintro e w' ⟨rfl, rfl⟩
              rw [HWR.out]
              go_wp2_with fail
              go_ret
              exact ⟨ret_int HE.out.symm, hB⟩
            · have HG := hide (show firstBad (posErr p F) (k + 1) = 0 from by rw [firstBad_succ HZ.out]; exact posErr_zero hr ho)
              have t1 : decide (F k ≤ beforeI F k) = false := by simpa using ho
              have HF := hide (show beforeI F (k + 1) = F k from rfl)
              clear hr ho
              generalize F k = f at *
              generalize beforeI F k = g at *
              go_wp2_with fail
              refine (isWithin_any _ _ _ _).mono ?_; rintro e w' ⟨rfl, rfl⟩
              rw [HWR.out]
              go_wp2_with fail
              go_roundw
              case rel => exact ⟨k + 1, by omega, by go_num, by rw [HF.out], HG, bx, hB⟩
              case measure => simp [intOf]; omega
          · have HWR := hide (withinB_no hr)
            have HE := hide (show R = 2 from by rw [EQ.out, firstBad_at HZ.out (by rw [posErr_two hr]; decide) n hlt, posErr_two hr])
            clear hr
            go_wp2_with fail
            refine (isWithin_any _ _ _ _).mono ?_; rintro e w' ⟨rfl, rfl⟩
            rw [HWR.out]
            go_wp2_with fail
            go_ret
            exact ⟨ret_int HE.out.symm, hB⟩
        · obtain rfl : k = n := by omega
          go_wp2_with fail
          go_ret
          exact ⟨ret_int (by rw [EQ.out, HZ.out]), hB⟩
  · have EQ := hide (show polarErrI p n F = 2 from if_neg hp)
    have HW := hide (withinB_no hp)
    generalize polarErrI p n F = R at *
    clear hp hI
    go_enter Try.func45, Try.ntmps45
    go_wp2_with fail
    refine (isWithin_any _ _ _ _).mono ?_; rintro e w' ⟨rfl, rfl⟩
    rw [HW.out]
    go_wp2_with fail
    go_ret
    exact ⟨ret_int EQ.out.symm, by (repeat (first | (with_reducible exact Below.refl _ _) | (with_reducible refine below_drewN ?_ _) | (with_reducible refine Below.drew ?_) | (with_reducible refine Below.alloc ?_ (by first | exact Nat.le_refl _ | (simp; done) | (simp; omega) | omega) _) | (with_reducible refine Below.setCell ?_ (by first | exact Nat.le_refl _ | (simp; done) | (simp; omega) | omega) _)))⟩
end Go.Proofs.Ytdkoohfcpikgiaa
/- slices.Equal of two lists of numbers. -/
namespace Go.Proofs.Ytdkoohfcpikgiaa
open Go.RowKit
end Go.Proofs.Ytdkoohfcpikgiaa
/- CheckPoly of the reference; power and few of the law. -/
namespace Go.Proofs.Ytdkoohfcpikgiaa
open Go.RowKit
set_option maxHeartbeats 400000 in
theorem few_any (A : Option Addr) (n c m : Nat) (w : World) (hn : n ≤ 9223372036854775807) (hm : m ≤ 1000) :
    Calls Try.prog 7 #[.slice A n c, .int .i64 (m : Int)] w fun e w' => e = .returned (.bool (decide (n ≤ 40 ∨ m < n ∧ n ≤ m + 2))) ∧ w = w' := by
  by_cases h1 : n ≤ 40
  · have HE := hide (show decide (n ≤ 40 ∨ m < n ∧ n ≤ m + 2) = true from by simp; omega)
    have t1 : decide ((n : Int) ≤ 40) = true := by simp; omega
    generalize decide (n ≤ 40 ∨ m < n ∧ n ≤ m + 2) = R at *
    go_enter Try.func7, Try.ntmps7
    go_wp2_with fail
    go_ret
    exact ⟨ret_bool HE.out.symm, rfl⟩
  · have t1 : decide ((n : Int) ≤ 40) = false := by simp; omega
    by_cases h2 : m < n
    · have t2 : decide ((m : Int) < (n : Int)) = true := by simp; omega
      have t2' : decide (m < n) = true := by simp; omega
      have HE := hide (show decide (n ≤ 40 ∨ m < n ∧ n ≤ m + 2) = decide ((n : Int) ≤ (m : Int) + 2) from by rw [decide_eq_decide]; omega)
      generalize decide (n ≤ 40 ∨ m < n ∧ n ≤ m + 2) = R at *
      go_enter Try.func7, Try.ntmps7
      go_wp2_with fail
      go_ret
      exact ⟨ret_bool HE.out.symm, rfl⟩
    · have t2 : decide ((m : Int) < (n : Int)) = false := by simp; omega
      have t2' : decide (m < n) = false := by simp; omega
      have HE := hide (show decide (n ≤ 40 ∨ m < n ∧ n ≤ m + 2) = false from by simp; omega)
      generalize decide (n ≤ 40 ∨ m < n ∧ n ≤ m + 2) = R at *
      go_enter Try.func7, Try.ntmps7
      go_wp2_with fail
      go_ret
      exact ⟨ret_bool HE.out.symm, rfl⟩
end Go.Proofs.Ytdkoohfcpikgiaa
/- exploring -/
namespace Go.Proofs.Ytdkoohfcpikgiaa
open Go.RowKit
set_option maxHeartbeats 400000 in
theorem countedError_any (n m : Nat) (w : World) (hn : n ≤ 100000) (hm : m ≤ 100000) :
    Calls Try.prog 52 #[.int .i64 (n : Int), .int .i64 (m : Int)] w fun e w' => e = .returned (.int .i64 (firstE [unI (decide (0 < n)) 10, unI (decide (n ≤ m)) 8])) ∧ Below w.heap.size w w' := by
  go_enter Try.func52, Try.ntmps52
  go_wp2_with (go_at_call 35; refine (unless_any _ _ _).mono ?_; rintro e w' ⟨rfl, rfl⟩)
  refine (firstError_laid [unI (decide (0 < n)) 10, unI (decide (n ≤ m)) 8] 2 _ _ rfl (by decide)).mono ?_
  rintro e w' ⟨rfl, rfl⟩
  go_wp2_with fail
  go_ret
  exact ⟨rfl, by (repeat (first | (with_reducible exact Below.refl _ _) | (with_reducible refine below_drewN ?_ _) | (with_reducible refine Below.drew ?_) | (with_reducible refine Below.alloc ?_ (by first | exact Nat.le_refl _ | (simp; done) | (simp; omega) | omega) _) | (with_reducible refine Below.setCell ?_ (by first | exact Nat.le_refl _ | (simp; done) | (simp; omega) | omega) _)))⟩
end Go.Proofs.Ytdkoohfcpikgiaa
/- exploring: areWithin -/
namespace Go.Proofs.Ytdkoohfcpikgiaa
open Go.RowKit
set_option maxHeartbeats 1000000 in
theorem areWithin1_any (x m : Int) (b : Nat) (w : World) (hm : w.cell? ⟨b, 0, none⟩ = some (.int .i64 m)) (h0 : 0 ≤ m) (h1 : m ≤ 1000000000000) :
    Calls Try.prog 64 #[.int .i64 x, .pointer (some ⟨b, 0, none⟩)] w fun e w' => e = .returned (.bool (!withinB x (-m) m)) ∧ ∃ q, w' = w.drewN q := by
  go_enter Try.func64, Try.ntmps64
  go_wp2_with (go_at_call 29; refine (isWithin_any _ _ _ _).mono ?_; rintro e w' ⟨rfl, rfl⟩)
  go_ret
  exact ⟨rfl, 0, rfl⟩
set_option maxHeartbeats 1000000 in
theorem areWithin_any (A : Option Addr) (n c : Nat) (F : Nat → Int) (m : Int) (w : World) (hn : n ≤ 100000) (hI : IntsAt w 0 A n F) (h0 : 0 ≤ m) (h1 : m ≤ 1000000000000) :
    Calls Try.prog 59 #[.slice A n c, .int .i64 m] w fun e w' => e = .returned (.bool (!anyN n fun j => !withinB (F j) (-m) m)) ∧ Below w.heap.size w w' := by
  have HX := hide (containsFunc_any 64 #[.pointer (some ⟨w.heap.size, 0, none⟩)] (enters_of Try.func64 (by kernel_rfl) rfl) (fun x => !withinB x (-m) m) A n c F (w.alloc (.cells #[.int .i64 m] 3)) hn (hI.alloc _)
    (fun x W hW => areWithin1_any x m w.heap.size W (((Box.made rfl : Box (w.alloc (.cells #[.int .i64 m] 3)) w.heap.size 3 #[.int .i64 m]).below hW).at_ 0) h0 h1))
  clear hI
  go_enter Try.func59, Try.ntmps59
  go_wp2_with (go_at_call 62; refine HX.out.mono ?_; rintro e w' ⟨rfl, q, rfl⟩)
  go_ret
  exact ⟨rfl, by (repeat (first | (with_reducible exact Below.refl _ _) | (with_reducible refine below_drewN ?_ _) | (with_reducible refine Below.drew ?_) | (with_reducible refine Below.alloc ?_ (by first | exact Nat.le_refl _ | (simp; done) | (simp; omega) | omega) _) | (with_reducible refine Below.setCell ?_ (by first | exact Nat.le_refl _ | (simp; done) | (simp; omega) | omega) _)))⟩
end Go.Proofs.Ytdkoohfcpikgiaa
/- exploring: bitsError, softError -/
namespace Go.Proofs.Ytdkoohfcpikgiaa
open Go.RowKit
theorem below_of_alloc {w w1 : World} {o : Obj} (h : Below (w.alloc o).heap.size (w.alloc o) w1) : Below w.heap.size w w1 := ((Below.refl _ _).alloc (Nat.le_refl _) o).trans (h.mono (by simp))
set_option maxHeartbeats 1000000 in
theorem bitsError_any (A : Option Addr) (n c : Nat) (F : Nat → Int) (w : World) (hn : n ≤ 100000) (hI : IntsAt w 0 A n F) :
    Calls Try.prog 34 #[.slice A n c] w fun e w' => e = .returned (.int .i64 (firstE [firstE [unI (decide (0 < n)) 10, unI (decide (n ≤ 200)) 8], unI (bitsB n F) 15])) ∧ Below w.heap.size w w' := by
  have HI := hide hI
  clear hI
  go_enter Try.func34, Try.ntmps34
  go_wp2_with fail
  refine (countedError_any n 200 _ hn (by omega)).mono ?_
  rintro e w1 ⟨rfl, hb1⟩
  go_wp2_with fail
  refine (areBits_any A n c F _ hn (HI.out.below hb1)).mono ?_
  rintro e w2 ⟨rfl, q, rfl⟩
  go_wp2_with (go_at_call 35; refine (unless_any _ _ _).mono ?_; rintro e w' ⟨rfl, rfl⟩)
  refine (firstError_laid [firstE [unI (decide (0 < n)) 10, unI (decide (n ≤ 200)) 8], unI (bitsB n F) 15] 2 _ _ rfl (by decide)).mono ?_
  rintro e w' ⟨rfl, rfl⟩
  go_wp2_with fail
  go_ret
  have s1 := hb1.size
  exact ⟨rfl, by (repeat (first | (with_reducible exact Below.refl _ _) | (with_reducible refine below_drewN ?_ _) | (with_reducible refine Below.drew ?_) | (with_reducible refine Below.alloc ?_ (by first | exact Nat.le_refl _ | (simp; done) | (simp; omega) | omega) _) | (with_reducible refine Below.trans ?_ (Below.mono hb1 (by first | exact Nat.le_refl _ | (simp; done) | (simp; omega) | omega))) | (with_reducible refine Below.setCell ?_ (by first | exact Nat.le_refl _ | (simp; done) | (simp; omega) | omega) _)))⟩
set_option maxHeartbeats 1000000 in
theorem softError_any (A : Option Addr) (n c : Nat) (F : Nat → Int) (w : World) (hn : n ≤ 100000) (hI : IntsAt w 0 A n F) :
    Calls Try.prog 47 #[.slice A n c] w fun e w' => e = .returned (.int .i64 (firstE [firstE [unI (decide (0 < n)) 10, unI (decide (n ≤ 400)) 8], unI (!anyN n fun j => !withinB (F j) (-1000000) 1000000) 2])) ∧ Below w.heap.size w w' := by
  have HI := hide hI
  clear hI
  go_enter Try.func47, Try.ntmps47
  go_wp2_with fail
  refine (countedError_any n 400 _ hn (by omega)).mono ?_
  rintro e w1 ⟨rfl, hb1⟩
  go_wp2_with fail
  refine (areWithin_any A n c F 1000000 _ hn (HI.out.below hb1) (by omega) (by omega)).mono ?_
  rintro e w2 ⟨rfl, hb2⟩
  go_wp2_with (go_at_call 35; refine (unless_any _ _ _).mono ?_; rintro e w' ⟨rfl, rfl⟩)
  refine (firstError_laid [firstE [unI (decide (0 < n)) 10, unI (decide (n ≤ 400)) 8], unI (!anyN n fun j => !withinB (F j) (-1000000) 1000000) 2] 2 _ _ rfl (by decide)).mono ?_
  rintro e w' ⟨rfl, rfl⟩
  go_wp2_with fail
  go_ret
  have s1 := hb1.size
  have s2 := hb2.size
  exact ⟨rfl, by (repeat (first | (with_reducible exact Below.refl _ _) | (with_reducible refine below_drewN ?_ _) | (with_reducible refine Below.drew ?_) | (with_reducible refine Below.alloc ?_ (by first | exact Nat.le_refl _ | (simp; done) | (simp; omega) | omega) _) | (with_reducible refine Below.trans ?_ (Below.mono hb2 (by first | exact Nat.le_refl _ | (simp; done) | (simp; omega) | omega))) | (with_reducible refine Below.trans ?_ (Below.mono hb1 (by first | exact Nat.le_refl _ | (simp; done) | (simp; omega) | omega))) | (with_reducible refine Below.setCell ?_ (by first | exact Nat.le_refl _ | (simp; done) | (simp; omega) | omega) _)))⟩
end Go.Proofs.Ytdkoohfcpikgiaa
/- exploring: wordOf -/
namespace Go.Proofs.Ytdkoohfcpikgiaa
open Go.RowKit
theorem intInfo' : (Try.prog.info? 3).map (fun i => (i.zero, i.size, i.bytes)) = some (some (.int .i64 0), 1, 8) := by kernel_rfl
set_option maxHeartbeats 1000000 in
theorem wordOf_any (A : Option Addr) (n c : Nat) (U : Nat → Int) (w : World) (hn : n ≤ 1000) (hU : IntsAt w 0 A n U) (hb : ∀ k, k < n → IsBit (U k)) :
    Calls Try.prog 58 #[.slice A n c] w fun e w' => ∃ v, e = .returned v ∧ GaveInts w n (wordF n U) v w' := by
  obtain ⟨i0, hi, hz0, hz1, hz2⟩ := info_parts intInfo'
  have hmk := fun W => run_make_row (P := Try.prog) 25 3 i0 (.int .i64 0) Try.underlying25 hi hz0 hz1 rfl .i64 .i64 n (by rw [hz2]; omega) (by omega) W
  have HU := hide hU
  have HB := hide hb
  clear hU hb hi hz0 hz1 hz2
  go_enter Try.func58, Try.ntmps58
  go_wp2_with fail
  clear hmk
  go_loopw [12] (fun i wr => ∃ k : Nat, k ≤ n ∧ i = .int .i64 k ∧ wr.rowIs w.heap.size 3 n (fun x => .int .i64 (if x < k then wordF n U x else 0)) ∧ Below w.heap.size w wr) (fun i _ => n - (intOf i).toNat)
  case atStart =>
    exact ⟨0, Nat.zero_le _, rfl, (World.rowIs_made w (.int .i64 0) n 3).congr (fun j _ => by simp), (Below.refl _ _).alloc (Nat.le_refl _) _⟩
  case round =>
    obtain ⟨k, hk, rfl, hR, hBl⟩ := hrel
    by_cases hlt : k < n
    · have hltz : (k : Int) < (n : Int) := by omega
      go_wp2_with fail
      obtain ⟨wo, hwo⟩ : ∃ wo : World, wo = wr := ⟨_, rfl⟩
      clear hwo
      go_loopw [17] (fun i wr => ∃ m : Nat, m ≤ n ∧ i = .int .i64 m ∧ wr.rowIs w.heap.size 3 n (fun x => .int .i64 (if x = k then wsum U k m else if x < k then wordF n U x else 0)) ∧ Below w.heap.size w wr) (fun i _ => n - (intOf i).toNat)
      case atStart => exact ⟨0, Nat.zero_le _, rfl, hR.congr (fun j _ => by by_cases e : j = k <;> simp [e, wsum]), hBl⟩
      case round =>
        obtain ⟨m, hm, rfl, hS, hBm⟩ := hrel
        by_cases hlm : m < n
        · have hltm : (m : Int) < (n : Int) := by omega
          have hI := HU.out.below (by exact hBm)
          obtain ⟨b, o, rfl, -, hb, hcell⟩ := hI m hlm
          have hc := hS.cell hlt
          have hf := hS.frozen k
          have hand := andI m k (by omega) (by omega)
          by_cases hmk : m &&& k = k
          · have e1 : (m &&& k == k) = true := by simpa using hmk
            have HW := hide (show wsum U k (m + 1) = bits .xor .i64 (wsum U k m) (U m) from by rw [wsum, if_pos hmk, xor1_bits (wsum_bit U k m) (HB.out m hlm)])
            clear hmk
            go_wp2_with fail
            go_roundw
            case rel =>
              exact ⟨m + 1, by omega, by go_num, (hS.set k _).congr (fun x _ => by
                by_cases e : x = k
                · rw [if_pos e, if_pos e, HW.out]
                · rw [if_neg e, if_neg e, if_neg e]), hBm.setCell (by exact Nat.le_refl _) _⟩
            case measure => simp [intOf]; omega
          · have e1 : (m &&& k == k) = false := by simpa using hmk
            have HW := hide (show wsum U k (m + 1) = wsum U k m from by rw [wsum, if_neg hmk])
            clear hmk
            go_wp2_with fail
            go_roundw
            case rel =>
              exact ⟨m + 1, by omega, by go_num, hS.congr (fun x _ => by rw [HW.out]), hBm⟩
            case measure => simp [intOf]; omega
        · obtain rfl : m = n := by omega
          go_wp2_with fail
          go_roundw
          case rel =>
            exact ⟨k + 1, by omega, by go_num, hS.congr (fun x _ => by
              by_cases e : x = k
              · subst e
                rw [if_pos rfl, if_pos (Nat.lt_succ_self _)]; rfl
              · rw [if_neg e]
                by_cases e2 : x < k
                · rw [if_pos e2, if_pos (by omega)]
                · rw [if_neg e2, if_neg (by omega)]), hBm⟩
          case measure => simp [intOf]; omega
    · obtain rfl : k = n := by omega
      go_wp2_with fail
      go_ret
      exact ⟨_, rfl, GaveInts.of_row (hR.congr (fun j hj => by rw [if_pos hj])) (Nat.le_refl _) hBl⟩
end Go.Proofs.Ytdkoohfcpikgiaa
/- exploring: encoded -/
namespace Go.Proofs.Ytdkoohfcpikgiaa
open Go.RowKit
/-- What stands at the position x of a polar code. -/
def posF (F B : Nat → Int) (x : Nat) : Nat → Int
  | 0 => 0
  | k + 1 => if F k = x then B k else posF F B x k
theorem posF_bit {F B : Nat → Int} : ∀ {n : Nat}, (∀ k, k < n → IsBit (B k)) → ∀ x, IsBit (posF F B x n)
  | 0, _, _ => .inl rfl
  | n + 1, h, x => by
    unfold posF
    split
    · exact h n (Nat.lt_succ_self _)
    · exact posF_bit (fun k hk => h k (by omega)) x
set_option maxHeartbeats 1000000 in
theorem encoded_any (p : Nat) (A C : Option Addr) (n c d : Nat) (F B : Nat → Int) (w : World) (hok : PolarOk p n F) (hn : n ≤ 1000) (hI : IntsAt w 0 A n F) (hJ : IntsAt w 0 C n B) (hb : ∀ k, k < n → IsBit (B k)) :
    Calls Try.prog 46 #[.agg #[.int .i64 (p : Int), .slice A n c], .slice C n d] w fun e w' => ∃ v, e = .returned v ∧ GaveInts w (2 ^ p) (wordF (2 ^ p) fun x => posF F B x n) v w' := by
  obtain ⟨h1, h2, h3, h4⟩ := hok
  obtain ⟨p1, p2⟩ : 1 ≤ (2 : Int) ^ p ∧ (2 : Int) ^ p ≤ 64 := by
    have h1 : 2 ^ p ≤ 2 ^ 6 := Nat.pow_le_pow_right (by decide) h1
    have h0 : 0 < 2 ^ p := Nat.two_pow_pos p
    have e : ((2 ^ p : Nat) : Int) = (2 : Int) ^ p := by simp
    omega
  obtain ⟨N, hN⟩ : ∃ N, N = 2 ^ p := ⟨_, rfl⟩
  have eN : (2 : Int) ^ p = (N : Int) := by rw [hN]; simp
  rw [← hN]
  rw [eN] at p1 p2
  have h3' : ∀ k, k < n → 0 ≤ F k ∧ F k < N := fun k hk => by have := h3 k hk; rw [eN] at this; omega
  obtain ⟨i0, hi, hz0, hz1, hz2⟩ := info_parts intInfo
  have hmk := fun W => run_make_row (P := Try.prog) 25 3 i0 (.int .i64 0) Try.underlying25 hi hz0 hz1 rfl .i64 .i64 N (by rw [hz2]; omega) (by omega) W
  have HI := hide hI
  have HJ := hide hJ
  have H3 := hide h3'
  have HB := hide hb
  clear hI hJ h3 h3' h4 hi hz0 hz1 hz2 hN hb
  go_enter Try.func46, Try.ntmps46
  go_wp2_with fail
  clear hmk
  go_loopw [15] (fun i wr => ∃ k : Nat, k ≤ n ∧ i = .int .i64 k ∧ wr.rowIs (w.heap.size + 1) 3 N (fun x => .int .i64 (posF F B x k)) ∧ Below w.heap.size w wr) (fun i _ => n - (intOf i).toNat)
  case atStart =>
    refine ⟨0, Nat.zero_le _, rfl, ?_, by (repeat (first | (with_reducible exact Below.refl _ _) | (with_reducible refine below_drewN ?_ _) | (with_reducible refine Below.drew ?_) | (with_reducible refine Below.alloc ?_ (by first | exact Nat.le_refl _ | (simp; done) | (simp; omega) | omega) _) | (with_reducible refine Below.setCell ?_ (by first | exact Nat.le_refl _ | (simp; done) | (simp; omega) | omega) _)))⟩
    have := World.rowIs_made (w.alloc (.cells #[.int .i64 (p : Int), .slice A n c] 55)) (.int .i64 0) N 3
    simp only [World.size_alloc] at this
    exact this.congr (fun _ _ => rfl)
  case round =>
    obtain ⟨k, hk, rfl, hR, hBl⟩ := hrel
    by_cases hlt : k < n
    · have hltz : (k : Int) < (n : Int) := by omega
      have hI := HI.out.below hBl
      have hJ := HJ.out.below hBl
      obtain ⟨b, o, rfl, -, hb, hcell⟩ := hI k hlt
      obtain ⟨b', o', rfl, -, hb', hcell'⟩ := hJ k hlt
      obtain ⟨f0, f1⟩ := H3.out k hlt
      obtain ⟨f, hf⟩ := Int.eq_ofNat_of_zero_le f0
      have HF := hide hf
      rw [hf] at hcell f0 f1
      clear hf
      have hc := hR.cell (i := f) (by omega)
      have hfz := hR.frozen f
      go_wp2_with fail
      go_roundw
      case rel =>
        exact ⟨k + 1, by omega, by go_num, (hR.set f _).congr (fun x _ => by
          show (if x = f then Value.int .i64 (B k) else _) = Value.int .i64 (if F k = x then B k else posF F B x k)
          by_cases e : x = f
          · rw [if_pos e, if_pos (by rw [HF.out, e])]
          · rw [if_neg e, if_neg (by rw [HF.out]; omega)]), hBl.setCell (by simp) _⟩
      case measure => simp [intOf]; omega
    · obtain rfl : k = n := by omega
      go_wp2_with fail
      refine (wordOf_any _ N N (fun x => posF F B x k) _ (by omega) (IntsAt.of_row hR (Nat.zero_le _)) (fun x _ => posF_bit HB.out x)).mono ?_
      rintro e w1 ⟨v, rfl, A', c', rfl, hc', hI', hb'⟩
      go_wp2_with fail
      go_ret
      exact ⟨_, rfl, A', c', rfl, hc', hI'.weak hBl.size, hBl.trans (hb'.mono hBl.size)⟩
end Go.Proofs.Ytdkoohfcpikgiaa
/- slices.Concat of two. -/
namespace Go.Proofs.Ytdkoohfcpikgiaa
open Go.RowKit Go.Lib
def ZAt (n m : Nat) (i z : Value) : Prop := (i = .int .i64 0 ∧ z = .int .i64 0) ∨ (i = .int .i64 1 ∧ z = .int .i64 (n : Int)) ∨ (i = .int .i64 2 ∧ z = .int .i64 ((n : Int) + m))
def OAt (w : World) (n m : Nat) (F G : Nat → Int) (i v : Value) (wr : World) : Prop :=
  (i = .int .i64 0 ∧ OwnInts wr w.heap.size v 0 (fun _ => 0)) ∨ (i = .int .i64 1 ∧ OwnInts wr w.heap.size v n F) ∨ (i = .int .i64 2 ∧ OwnInts wr w.heap.size v (n + m) (catF n F G))
set_option maxHeartbeats 4000000 in
theorem concat_any (g t : Nat) (A C : Option Addr) (n m c d e0 : Nat) (F G : Nat → Int) (w : World) (hn : n ≤ 1000000) (hm : m ≤ 1000000) (bx : Box w g t #[.slice A n c, .slice C m d]) (hF : IntsAt w 0 A n F) (hG : IntsAt w 0 C m G) :
    Calls Try.prog 66 #[.slice (some ⟨g, 0, none⟩) 2 e0] w fun e w' => ∃ v, e = .returned v ∧ GaveInts w (n + m) (catF n F G) v w' := by
  have HF := hide hF
  have HG := hide hG
  have y0 := bx.at_ 0
  have y1 := bx.at_ 1
  simp only [List.getElem?_toArray] at y0 y1
  clear hF hG
  go_enter Try.func66, Try.ntmps66
  go_wp2_with fail
  go_loopw [3, 11] (fun z i wr => ZAt n m i z ∧ wr = w) (fun _ i _ => 2 - (intOf i).toNat)
  case atStart => exact ⟨.inl ⟨rfl, rfl⟩, rfl⟩
  case round =>
    obtain ⟨hz, rfl⟩ := hrel
    rcases hz with ⟨rfl, rfl⟩ | ⟨rfl, rfl⟩ | ⟨rfl, rfl⟩
    · go_wp2_with fail
      go_roundw
      case rel => exact ⟨.inr (.inl ⟨rfl, rfl⟩), by first | rfl | trivial⟩
      case measure => simp [intOf]
    · go_wp2_with fail
      go_roundw
      case rel => exact ⟨.inr (.inr ⟨rfl, rfl⟩), by first | rfl | trivial⟩
      case measure => simp [intOf]
    · go_wp2_with fail
      rw [show (n : Int) + m = ((n + m : Nat) : Int) from by omega]
      refine (grow_any (n + m) _ (by omega)).mono ?_
      rintro e w1 ⟨v, rfl, hown, hb1⟩
      have z0 := (bx.below hb1).at_ 0
      have z1 := (bx.below hb1).at_ 1
      simp only [List.getElem?_toArray] at z0 z1
      go_wp2_with fail
      obtain ⟨wo, rfl⟩ : ∃ wo : World, wo = wr := ⟨_, rfl⟩
      go_loopw [6, 27] (fun v i wx => OAt wo n m F G i v wx ∧ Below wo.heap.size wo wx) (fun _ i _ => 2 - (intOf i).toNat)
      case atStart => exact ⟨.inl ⟨rfl, hown⟩, hb1⟩
      case round =>
        clear z0 z1
        obtain ⟨ho, hB⟩ := hrel
        have z0 := (bx.below hB).at_ 0
        have z1 := (bx.below hB).at_ 1
        simp only [List.getElem?_toArray] at z0 z1
        have hF := HF.out.below hB
        have hG := HG.out.below hB
        have hs := hB.size
        rcases ho with ⟨rfl, ho⟩ | ⟨rfl, ho⟩ | ⟨rfl, ho⟩
        · obtain ⟨A', c', rfl, -, -⟩ := ho.form
          go_wp2_with (at_builtin; refine wpList_append_ints _ rfl (.tmp 31) (.tmp 32) rfl wo.heap.size 0 (.slice A' 0 c') 0 (fun _ => 0) rfl ho A n c F rfl hF (by omega) hs ?_; intro v' w' h1 hb2)
          go_roundw
          case rel => exact ⟨.inr (.inl ⟨rfl, by rw [Nat.zero_add] at h1; exact h1.congr fun j _ => by simp [catF]⟩), hB.trans hb2⟩
          case measure => simp [intOf]
        · obtain ⟨A', c', rfl, -, -⟩ := ho.form
          go_wp2_with (at_builtin; refine wpList_append_ints _ rfl (.tmp 31) (.tmp 32) rfl wo.heap.size 0 (.slice A' n c') n F rfl ho C m d G rfl hG (by omega) hs ?_; intro v' w' h1 hb2)
          go_roundw
          case rel => exact ⟨.inr (.inr ⟨rfl, h1⟩), hB.trans hb2⟩
          case measure => simp [intOf]
        · go_wp2_with fail
          go_ret
          exact ⟨_, rfl, ho.gave hB⟩
end Go.Proofs.Ytdkoohfcpikgiaa
/- exploring: lesser -/
namespace Go.Proofs.Ytdkoohfcpikgiaa
open Go.RowKit
theorem sizeI_neg {a : Int} (h : a < 0) : sizeI a = -a := by unfold sizeI; omega
theorem sizeI_pos {a : Int} (h : 0 ≤ a) : sizeI a = a := by unfold sizeI; omega
set_option maxHeartbeats 1000000 in
theorem lesser_any (a b : Int) (w : World) (ha : -1000000000000 ≤ a ∧ a ≤ 1000000000000) (hb : -1000000000000 ≤ b ∧ b ≤ 1000000000000) :
    Calls Try.prog 65 #[.int .i64 a, .int .i64 b] w fun e w' => e = .returned (.int .i64 (lesserI a b)) ∧ w = w' := by
  obtain ⟨a0, a1⟩ := ha
  obtain ⟨b0, b1⟩ := hb
  by_cases h1 : a < 0
  · have d1 : decide (a < 0) = true := by simpa using h1
    by_cases h2 : b < 0
    · have d2 : decide (b < 0) = true := by simpa using h2
      have E := hide (show lesserI a b = min (-a) (-b) from by rw [lesserI, if_pos (by simp [h1, h2]), sizeI_neg h1, sizeI_neg h2])
      go_enter Try.func65, Try.ntmps65
      go_wp2
      all_goals
        go_ret
        exact ⟨ret_int (by rw [E.out, Int.min_def]; split <;> omega), rfl⟩
    · have E := hide (show lesserI a b = -min (-a) b from by rw [lesserI, if_neg (by simp [h1, h2]), sizeI_neg h1, sizeI_pos (by omega)])
      have h2' : 0 ≤ b := by omega
      have d2 : decide (b < 0) = false := by simpa using h2'
      clear h2
      go_enter Try.func65, Try.ntmps65
      go_wp2
      all_goals
        go_ret
        exact ⟨ret_int (by rw [E.out, Int.min_def]; split <;> omega), rfl⟩
  · have h1' : 0 ≤ a := by omega
    have d1 : decide (a < 0) = false := by simpa using h1
    by_cases h2 : b < 0
    · have d2 : decide (b < 0) = true := by simpa using h2
      have E := hide (show lesserI a b = -min a (-b) from by rw [lesserI, if_neg (by simp [h1, h2]), sizeI_pos h1', sizeI_neg h2])
      clear h1
      go_enter Try.func65, Try.ntmps65
      go_wp2
      all_goals
        go_ret
        exact ⟨ret_int (by rw [E.out, Int.min_def]; split <;> omega), rfl⟩
    · have E := hide (show lesserI a b = min a b from by rw [lesserI, if_pos (by simp [h1, h2]), sizeI_pos h1', sizeI_pos (by omega)])
      have h2' : 0 ≤ b := by omega
      have d2 : decide (b < 0) = false := by simpa using h2'
      clear h1 h2
      go_enter Try.func65, Try.ntmps65
      go_wp2
      all_goals
        go_ret
        exact ⟨ret_int (by rw [E.out, Int.min_def]; split <;> omega), rfl⟩
end Go.Proofs.Ytdkoohfcpikgiaa
