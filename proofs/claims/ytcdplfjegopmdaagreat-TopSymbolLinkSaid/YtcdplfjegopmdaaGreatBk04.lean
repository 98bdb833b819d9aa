/- Lemmas: KFb, KHa, Fg, Ga, KGa, KHb, KHd, KJb, Hc, KJc, KJg. -/
import Derived.StillTailTactics
import Derived.OrdersIn
import Derived.Test.YtcdplfjegopmdaaGreatBk01
import Derived.Test.YtcdplfjegopmdaaGreatBk02
import Derived.Test.YtcdplfjegopmdaaGreatBk03
set_option linter.unusedVariables false
set_option linter.unusedSimpArgs false
/- Fb of chapter 02, in a namespace of its own. -/
namespace Go.Proofs.YtcdplfjegopmdaaGreat.K
open Go.RowKit Go.Shelf
theorem bitsErr_ok' {n : Nat} {F : Nat → Int} (h0 : 0 < n) (h1 : n ≤ 200) (hb : ∀ k, k < n → IsBit (F k)) : firstE [firstE [unI (decide (0 < n)) 10, unI (decide (n ≤ 200)) 8], unI (bitsB n F) 15] = 0 := by
  have e1 : decide (0 < n) = true := by simpa using h0
  have e2 : decide (n ≤ 200) = true := by simpa using h1
  have e3 := bitsB_iff.2 hb
  rw [e1, e2, e3]; rfl
theorem softErr_ok {n : Nat} {F : Nat → Int} (h0 : 0 < n) (h1 : n ≤ 400) (hb : ∀ k, k < n → -1000000 ≤ F k ∧ F k ≤ 1000000) : firstE [firstE [unI (decide (0 < n)) 10, unI (decide (n ≤ 400)) 8], unI (!anyN n fun j => !withinB (F j) (-1000000) 1000000) 2] = 0 := by
  have e1 : decide (0 < n) = true := by simpa using h0
  have e2 : decide (n ≤ 400) = true := by simpa using h1
  have e3 : (!anyN n fun j => !withinB (F j) (-1000000) 1000000) = true := by
    rw [Bool.not_eq_true', ← Bool.not_eq_true, anyN_iff]
    rintro ⟨j, hj, h⟩
    rw [withinB_yes (hb j hj)] at h
    cases h
  rw [e1, e2, e3]; rfl
theorem balloc' {B : Nat} {w1 W : World} (h : Below B w1 W) (hB : B ≤ w1.heap.size) (o : Obj) : Below B w1 (W.alloc o) := h.alloc (Nat.le_trans hB h.size) o
theorem bstep2 {B : Nat} {w1 W w2 : World} {p q : Prop} (hb : Below W.heap.size W w2) (h : p ∧ q ∧ Below B w1 W) (hB : B ≤ w1.heap.size) : Below B w1 w2 := h.2.2.trans (hb.mono (Nat.le_trans hB h.2.2.size))
set_option maxHeartbeats 400000 in
theorem versionError_any (v : Int) (w : World) : Calls Tryz.prog 50 #[.int .i64 v] w fun e w' => e = .returned (.int .i64 (unI (withinB v 0 3) 15)) ∧ w = w' := by
  go_enter Tryz.func50, Tryz.ntmps50
  go_wp2_with (first | (go_at_call 88; refine (isWithin_any _ _ _ _).mono ?_; rintro e w' ⟨rfl, rfl⟩) | (go_at_call 49; refine (unless_any _ _ _).mono ?_; rintro e w' ⟨rfl, rfl⟩))
  go_ret
  exact ⟨rfl, rfl⟩
set_option maxHeartbeats 400000 in
theorem countError_any (v : Int) (w : World) : Calls Tryz.prog 85 #[.int .i64 v] w fun e w' => e = .returned (.int .i64 (unI (withinB v 1 400) 2)) ∧ w = w' := by
  go_enter Tryz.func85, Tryz.ntmps85
  go_wp2_with (first | (go_at_call 88; refine (isWithin_any _ _ _ _).mono ?_; rintro e w' ⟨rfl, rfl⟩) | (go_at_call 49; refine (unless_any _ _ _).mono ?_; rintro e w' ⟨rfl, rfl⟩))
  go_ret
  exact ⟨rfl, rfl⟩
set_option maxHeartbeats 1000000 in
theorem Decode_ok (p N : Nat) (A C : Option Addr) (n c d : Nat) (F S : Nat → Int) (w : World) (hok : PolarOk p n F) (hn : n ≤ 200) (hN : N = 2 ^ p) (hI : IntsAt w 0 A n F) (hS : IntsAt w 0 C N S) (hNd : N ≤ d) (hd : d ≤ 9223372036854775807) (hS9 : ∀ j, j < N → -1000000 ≤ S j ∧ S j ≤ 1000000) :
    Calls Tryz.prog 41 #[.agg #[.int .i64 (p : Int), .slice A n c], .slice C N d] w fun e w' => ∃ v, e = .returned (.tuple #[v, .int .i64 0]) ∧ GaveInts w n (fun k => cancelF p (fun x => isPos F x n) S (F k).toNat) v w' := by
  have hp := hok.power
  have hN1 : 1 ≤ N := by rw [hN]; exact Nat.two_pow_pos p
  have hN9 : N ≤ 64 := by rw [hN]; exact Nat.pow_le_pow_right (by decide) hp
  have eN : (2 : Int) ^ p = (N : Int) := by rw [hN]; simp
  have HI := hide hI
  have HS := hide hS
  have HOK := hide hok
  have HN := hide hN
  have HS9 := hide hS9
  have HE := hide (softErr_ok (n := N) (by omega) (by omega) hS9)
  clear hI hS hok hN hS9
  go_enter Tryz.func41, Tryz.ntmps41
  go_wp2_with fail
  refine (checkPolar_ok p A n c F _ HOK.out (by omega) (HI.out.alloc _)).mono ?_
  rintro e w1 ⟨rfl, hb1⟩
  have h1 := below_of_alloc hb1
  go_wp2_with fail
  refine (softError_any C N d S _ (by omega) (HS.out.below h1)).mono ?_
  rintro e w2 ⟨rfl, hb2⟩
  rw [HE.out]
  go_wp2_with fail
  refine (firstError_laid [0, 0] 2 _ _ rfl (by decide)).mono ?_
  rintro e w3 ⟨rfl, hw3⟩
  rw [show firstE [0, 0] = (0 : Int) from rfl]
  have bx : Box w3 w.heap.size 26 #[.int .i64 (p : Int), .slice A n c] := by rw [← hw3]; exact (((Box.made rfl).below hb1).below hb2).alloc _
  have hB3 : Below w.heap.size w w3 := by
    rw [← hw3]
    exact (h1.trans (hb2.mono h1.size)).alloc (Nat.le_trans h1.size hb2.size) _
  clear hw3 hb1 hb2 h1
  have x0 : w3.cell? ⟨w.heap.size, 0, none⟩ = some (.int .i64 (p : Int)) := bx.at_ 0
  have x1 : w3.cell? ⟨w.heap.size, 1, none⟩ = some (.slice A n c) := bx.at_ 1
  have hl3 := bx.lt
  go_wp2_with fail
  refine (decoded_pre p A C n c N d F S _ HOK.out (by omega) HN.out (HI.out.below hB3) (HS.out.below hB3) hNd hd 1000000 (by rw [eN]; omega) HS9.out).mono ?_
  rintro e w4 ⟨v, rfl, A4, c4, rfl, hc4, hI4, hb4⟩
  go_wp2_with fail
  go_ret2
  exact ⟨_, rfl, A4, c4, rfl, hc4, hI4.weak hB3.size, hB3.trans (hb4.mono hB3.size)⟩
end Go.Proofs.YtcdplfjegopmdaaGreat.K
/- Ha of chapter 02, in a namespace of its own. -/
namespace Go.Proofs.YtcdplfjegopmdaaGreat.K
open Go.RowKit
set_option maxHeartbeats 1000000 in
theorem equal_any (A C : Option Addr) (n m c d : Nat) (F G : Nat → Int) (w : World) (hn : n ≤ 100000) (hm : m ≤ 100000) (hF : IntsAt w 0 A n F) (hG : IntsAt w 0 C m G) :
    Calls Tryz.prog 111 #[.slice A n c, .slice C m d] w fun e w' => e = .returned (.bool (intsB n F m G)) ∧ ∃ q, w' = w.drewN q := by
  by_cases hnm : n = m
  · subst hnm
    have HF := hide hF
    have HG := hide hG
    clear hF hG
    go_enter Tryz.func111, Tryz.ntmps111
    go_wp2
    go_loopw [13] (fun i wr => ∃ k q : Nat, k ≤ n ∧ i = .int .i64 k ∧ wr = w.drewN q ∧ Hid (∀ j, j < k → F j = G j)) (fun i _ => n - (Go.RowKit.intOf i).toNat)
    case atStart => exact ⟨0, 0, Nat.zero_le _, rfl, rfl, hide fun j h => absurd h (Nat.not_lt_zero _)⟩
    case round =>
      obtain ⟨k, q, hk, rfl, rfl, HZ⟩ := hrel
      by_cases hlt : k < n
      · obtain ⟨b, o, rfl, -, hb, hcell⟩ := HF.out k hlt
        obtain ⟨b', o', rfl, -, hb', hcell'⟩ := HG.out k hlt
        have hltz : (k : Int) < (n : Int) := by omega
        by_cases he : F k = G k
        · have HE := hide he
          rw [he] at hcell
          clear he
          go_wp2
          go_quiet (fail)
          go_wp2
          go_roundw
          case rel =>
            exact ⟨k + 1, _, by omega, by go_num, rfl, hide fun j hj => by
              rcases Nat.lt_or_ge j k with h | h
              · exact HZ.out j h
              · obtain rfl : j = k := by omega
                exact HE.out⟩
          case measure => simp [Go.RowKit.intOf]; omega
        · have he' : (F k != G k) = true := by simpa using he
          have HE := hide (show intsB n F n G = false from by
            rw [← Bool.not_eq_true, intsB_iff]
            exact fun h => he (h.2 k hlt))
          clear he
          go_wp2
          go_quiet (fail)
          go_wp2
          go_ret
          exact ⟨ret_bool HE.out.symm, _, World.drewN_drewN _ _ _⟩
      · obtain rfl : k = n := by omega
        go_wp2
        go_ret
        exact ⟨ret_bool (Eq.symm (intsB_iff.2 ⟨rfl, HZ.out⟩)), _, rfl⟩
  · have he' : ((n : Int) != (m : Int)) = true := by simp; omega
    have HE := hide (show intsB n F m G = false from by
      rw [← Bool.not_eq_true, intsB_iff]
      exact fun h => hnm h.1)
    clear hF hG hnm
    go_enter Tryz.func111, Tryz.ntmps111
    go_wp2
    go_ret
    exact ⟨ret_bool HE.out.symm, 0, rfl⟩
end Go.Proofs.YtcdplfjegopmdaaGreat.K
/- base.AreBits -/
namespace Go.Proofs.YtcdplfjegopmdaaGreat
open Go.RowKit
set_option maxHeartbeats 1000000 in
theorem areBitsB_any (A : Option Addr) (n c : Nat) (F : Nat → Int) (w : World) (hn : n ≤ 100000) (hI : IntsAt w 0 A n F) :
    Calls Tryz.prog 35 #[.slice A n c] w fun e w' => e = .returned (.bool (bitsB n F)) ∧ ∃ q, w' = w.drewN q := by
  have HI := hide hI
  clear hI
  go_enter Tryz.func35, Tryz.ntmps35
  go_wp2_with fail
  go_loopw [3] (fun i wr => ∃ k q : Nat, k ≤ n ∧ i = .int .i64 k ∧ wr = w.drewN q ∧ Hid (∀ j, j < k → IsBit (F j))) (fun i _ => n - (Go.RowKit.intOf i).toNat)
  case atStart => exact ⟨0, 0, Nat.zero_le _, rfl, rfl, hide fun j h => absurd h (Nat.not_lt_zero _)⟩
  case round =>
    obtain ⟨k, q, hk, rfl, rfl, HZ⟩ := hrel
    by_cases hlt : k < n
    · have hltz : (k : Int) < (n : Int) := by omega
      obtain ⟨b, o, rfl, -, hb, hcell⟩ := HI.out k hlt
      by_cases h0 : F k = 0
      · have t1 : (F k != 0) = false := by simpa using h0
        have HB := hide (show IsBit (F k) from .inl h0)
        clear h0
        go_wp2_with fail
        go_roundw
        case rel => exact ⟨k + 1, q, by omega, by go_num, rfl, hide fun j hj => (by
          rcases Nat.lt_or_ge j k with h | h
          · exact HZ.out j h
          · obtain rfl : j = k := by omega
            exact HB.out)⟩
        case measure => simp [Go.RowKit.intOf]; omega
      · have t1 : (F k != 0) = true := by simpa using h0
        by_cases h1 : F k = 1
        · have t2 : (F k != 1) = false := by simpa using h1
          have HB := hide (show IsBit (F k) from .inr h1)
          clear h0 h1
          go_wp2_with fail
          go_roundw
          case rel => exact ⟨k + 1, q, by omega, by go_num, rfl, hide fun j hj => (by
            rcases Nat.lt_or_ge j k with h | h
            · exact HZ.out j h
            · obtain rfl : j = k := by omega
              exact HB.out)⟩
          case measure => simp [Go.RowKit.intOf]; omega
        · have t2 : (F k != 1) = true := by simpa using h1
          have HB := hide (show bitsB n F = false from by
            rw [← Bool.not_eq_true, bitsB_iff]
            intro h
            have := h k hlt
            unfold IsBit at this
            omega)
          clear h0 h1
          go_wp2_with fail
          go_ret
          exact ⟨ret_bool HB.out.symm, q, rfl⟩
    · obtain rfl : k = n := by omega
      go_wp2_with fail
      go_ret
      exact ⟨ret_bool (bitsB_iff.2 HZ.out).symm, q, rfl⟩
end Go.Proofs.YtcdplfjegopmdaaGreat
/- Mod, power, small, kindErr, BitsErr, Length, CopyPolar of the reference and the law. -/
namespace Go.Proofs.YtcdplfjegopmdaaGreat
open Go.RowKit

set_option maxHeartbeats 400000 in
theorem mod_any (n m : Int) (w : World) (h0 : 0 < m) (h1 : m ≤ 1000000000) :
    Calls Tryz.prog 30 #[.int .i64 n, .int .i64 m] w fun e w' => e = .returned (.int .i64 (n % m)) ∧ w = w' := by
  have hm0 : ¬ m = 0 := by omega
  by_cases hn : 0 ≤ n
  · have hb := Int.emod_nonneg n (show m ≠ 0 by omega)
    have hb2 := Int.emod_lt_of_pos n h0
    go_enter Tryz.func30, Tryz.ntmps30
    go_wp2_with fail
    go_ret
    exact ⟨rfl, rfl⟩
  · have hneg : n < 0 := by omega
    obtain ⟨r, hr⟩ : ∃ r, r = n.tmod m := ⟨_, rfl⟩
    have hr' := hr.symm
    have hle : -m < r ∧ r ≤ 0 := by
      rw [hr]
      have e := Int.neg_tmod (-n) m
      rw [Int.neg_neg] at e
      rw [e]
      have h2 : (-n).tmod m = (-n) % m := Int.tmod_eq_emod_of_nonneg (by omega)
      rw [h2]
      have := Int.emod_nonneg (-n) (show m ≠ 0 by omega)
      have := Int.emod_lt_of_pos (-n) h0
      omega
    have hdm : n % m = if r < 0 then r + m else r := by
      have h3 := Int.mul_tdiv_add_tmod n m
      rw [← hr] at h3
      split
      · have : n = (r + m) + m * (n.tdiv m - 1) := by rw [Int.mul_sub]; omega
        rw [this, Int.add_mul_emod_self_left]
        exact Int.emod_eq_of_lt (by omega) (by omega)
      · have h0r : r = 0 := by omega
        have : n = 0 + m * n.tdiv m := by omega
        rw [this, Int.add_mul_emod_self_left, h0r]
        rfl
    have HD := hide hdm
    obtain ⟨l1, l2⟩ := hle
    have hnn : ¬ 0 ≤ n := hn
    clear hdm hr hn
    by_cases hrz : r < 0
    · go_enter Tryz.func30, Tryz.ntmps30
      go_wp2_with fail
      go_ret
      exact ⟨ret_int (by rw [HD.out, if_pos hrz]), rfl⟩
    · have hr0 : 0 ≤ r := by omega
      have HRZ := hide hrz
      clear hrz
      go_enter Tryz.func30, Tryz.ntmps30
      go_wp2_with fail
      go_ret
      exact ⟨ret_int (by rw [HD.out, if_neg (Int.not_lt.2 HRZ.out)]), rfl⟩

def bitsErrR (n : Nat) (F : Nat → Int) : Int := if n = 0 then 10 else if 200 < n then 8 else if bitsB n F = true then 0 else 15
theorem bitsErrR_zero {n : Nat} {F : Nat → Int} (h : bitsErrR n F = 0) : 0 < n ∧ n ≤ 200 ∧ ∀ k, k < n → IsBit (F k) := by
  unfold bitsErrR at h
  by_cases h1 : n = 0
  · rw [if_pos h1] at h; exact absurd h (by decide)
  · rw [if_neg h1] at h
    by_cases h2 : 200 < n
    · rw [if_pos h2] at h; exact absurd h (by decide)
    · rw [if_neg h2] at h
      by_cases h3 : bitsB n F = true
      · exact ⟨by omega, by omega, bitsB_iff.1 h3⟩
      · rw [if_neg h3] at h; exact absurd h (by decide)

end Go.Proofs.YtcdplfjegopmdaaGreat
/- Ga of chapter 02, in a namespace of its own. -/
namespace Go.Proofs.YtcdplfjegopmdaaGreat.K
open Go.RowKit
set_option maxHeartbeats 400000 in
theorem powerR_any (n : Nat) (w : World) (h : n ≤ 16) : Calls Tryz.prog 44 #[.int .i64 (n : Int)] w fun e w' => e = .returned (.int .i64 (2 ^ n)) ∧ w = w' := by
  go_enter Tryz.func44, Tryz.ntmps44
  go_wp2
  go_loop [3, 4] (fun o i => ∃ k : Nat, k ≤ n ∧ i = .int .i64 k ∧ o = .int .i64 ((2 : Int) ^ k)) (fun _ i => n - (Go.RowKit.intOf i).toNat)
  case atStart => exact ⟨0, Nat.zero_le _, rfl, rfl⟩
  case round =>
    obtain ⟨k, hk, rfl, rfl⟩ := hrel
    obtain ⟨p1, p2⟩ := pow2_le k (by omega)
    have HS := hide (show (2 : Int) ^ (k + 1) = 2 * 2 ^ k from by rw [Int.pow_succ, Int.mul_comm])
    by_cases hlt : k < n
    · have hltz : (k : Int) < (n : Int) := by omega
      go_wp2
      go_round
      case rel => exact ⟨k + 1, by omega, by go_num, by rw [HS.out]⟩
      case measure => simp [Go.RowKit.intOf]; omega
    · obtain rfl : k = n := by omega
      go_wp2
      go_ret
      exact ⟨rfl, rfl⟩

set_option maxHeartbeats 400000 in
theorem kindErr_any (A : Option Addr) (n c : Nat) (F : Nat → Int) (w : World) (hn : n ≤ 100000) (hI : IntsAt w 0 A n F) :
    Calls Tryz.prog 55 #[.slice A n c] w fun e w' => e = .returned (.int .i64 (if bitsB n F = true then 0 else 15)) ∧ ∃ q, w' = w.drewN q := by
  have HX := hide (areBitsB_any A n c F w hn hI)
  clear hI
  cases hb : bitsB n F
  · rw [hb] at HX
    have EQ := hide (show (if false = true then (0 : Int) else 15) = 15 from rfl)
    generalize (if false = true then (0 : Int) else 15) = R at *
    clear hb
    go_enter Tryz.func55, Tryz.ntmps55
    go_wp2_with (go_at_call 35; refine HX.out.mono ?_; rintro e w' ⟨rfl, q, rfl⟩)
    go_ret
    exact ⟨ret_int EQ.out.symm, q, rfl⟩
  · rw [hb] at HX
    have EQ := hide (show (if true = true then (0 : Int) else 15) = 0 from rfl)
    generalize (if true = true then (0 : Int) else 15) = R at *
    clear hb
    go_enter Tryz.func55, Tryz.ntmps55
    go_wp2_with (go_at_call 35; refine HX.out.mono ?_; rintro e w' ⟨rfl, q, rfl⟩)
    go_ret
    exact ⟨ret_int EQ.out.symm, q, rfl⟩

set_option maxHeartbeats 400000 in
theorem bitsErrR_any (A : Option Addr) (n c : Nat) (F : Nat → Int) (w : World) (hn : n ≤ 9223372036854775807) (hI : IntsAt w 0 A n F) :
    Calls Tryz.prog 15 #[.slice A n c] w fun e w' => e = .returned (.int .i64 (bitsErrR n F)) ∧ ∃ q, w' = w.drewN q := by
  by_cases h1 : n = 0
  · have EQ := hide (show bitsErrR n F = 10 from if_pos h1)
    subst h1
    clear hI
    go_enter Tryz.func15, Tryz.ntmps15
    go_wp2_with fail
    go_ret
    exact ⟨ret_int EQ.out.symm, 0, rfl⟩
  · have t1 : ((n : Int) == 0) = false := by simp; omega
    by_cases h2 : 200 < n
    · have EQ := hide (show bitsErrR n F = 8 from by unfold bitsErrR; rw [if_neg h1, if_pos h2])
      have t2 : decide ((200 : Int) < (n : Int)) = true := by simp; omega
      clear hI h1
      go_enter Tryz.func15, Tryz.ntmps15
      go_wp2_with fail
      go_ret
      exact ⟨ret_int EQ.out.symm, 0, rfl⟩
    · have EQ := hide (show bitsErrR n F = (if bitsB n F = true then 0 else 15) from by unfold bitsErrR; rw [if_neg h1, if_neg h2])
      have t2 : decide ((200 : Int) < (n : Int)) = false := by simp; omega
      have HX := hide (kindErr_any A n c F w (by omega) hI)
      generalize (if bitsB n F = true then (0 : Int) else 15) = R at *
      clear hI h1
      go_enter Tryz.func15, Tryz.ntmps15
      go_wp2_with (go_at_call 55; refine HX.out.mono ?_; rintro e w' ⟨rfl, q, rfl⟩)
      go_ret
      exact ⟨ret_int EQ.out.symm, q, rfl⟩

set_option maxHeartbeats 400000 in
theorem length_any (p : Nat) (A : Option Addr) (n c : Nat) (w : World) (h : p ≤ 16) : Calls Tryz.prog 7 #[.agg #[.int .i64 (p : Int), .slice A n c]] w fun e w' => e = .returned (.int .i64 (2 ^ p)) ∧ Below w.heap.size w w' := by
  go_enter Tryz.func7, Tryz.ntmps7
  go_wp2_with (go_at_call 44; refine (powerR_any _ _ h).mono ?_; rintro e w' ⟨rfl, rfl⟩)
  go_ret
  exact ⟨rfl, by (repeat (first | (with_reducible exact Below.refl _ _) | (with_reducible refine Go.below_drewN ?_ _) | (with_reducible refine Below.drew ?_) | (with_reducible refine Below.alloc ?_ (by first | exact Nat.le_refl _ | (simp; done) | (simp; omega) | omega) _) | (with_reducible refine Below.setCell ?_ (by first | exact Nat.le_refl _ | (simp; done) | (simp; omega) | omega) _)))⟩

end Go.Proofs.YtcdplfjegopmdaaGreat.K
/- Hb of chapter 02, in a namespace of its own. -/
namespace Go.Proofs.YtcdplfjegopmdaaGreat.K
open Go.RowKit
set_option maxHeartbeats 1000000 in
theorem checkPolyR_any (d t : Int) (w : World) :
    Calls Tryz.prog 82 #[.agg #[.int .i64 d, .int .i64 t]] w fun e w' => e = .returned (.int .i64 (polyErrI d t)) ∧ Below w.heap.size w w' := by
  by_cases hd : 1 ≤ d ∧ d ≤ 16
  · obtain ⟨d, rfl⟩ := Int.eq_ofNat_of_zero_le (show 0 ≤ d by omega)
    obtain ⟨h0, h⟩ : 1 ≤ d ∧ d ≤ 16 := by omega
    clear hd
    obtain ⟨h1, h2⟩ := pow2_le d h
    have q1 : IntKind.i64.wrap ((2 : Int) ^ d - 1) = 2 ^ d - 1 := IntWalk.i64_in _ (by omega)
    have HW1 := (withinB_yes (n := (d : Int)) (lo := 1) (hi := 16) (by omega))
    by_cases ht : 1 ≤ t ∧ t ≤ 2 ^ d - 1
    · obtain ⟨t0, t1⟩ := ht
      have HWI := (withinB_yes (n := t) (lo := 1) (hi := 2 ^ d - 1) ⟨t0, t1⟩)
      have EQ := hide (show polyErrI (d : Int) t = if t % 2 = 0 then 3 else 0 from by
        unfold polyErrI
        rw [if_pos (by omega), Int.toNat_natCast, if_pos ⟨t0, t1⟩])
      generalize polyErrI (d : Int) t = R at *
      go_enter Tryz.func82, Tryz.ntmps82
      go_wp2_with fail
      generalize hW : World.alloc w _ = W
      have bx : Box W w.heap.size 23 #[.int .i64 (d : Int), .int .i64 t] := by rw [← hW]; exact Box.made rfl
      have hB : Below w.heap.size w W := by rw [← hW]; exact (Below.refl _ _).alloc (Nat.le_refl _) _
      clear hW
      have x0 : W.cell? ⟨w.heap.size, 0, none⟩ = some (.int .i64 (d : Int)) := bx.at_ 0
      have x1 : W.cell? ⟨w.heap.size, 1, none⟩ = some (.int .i64 t) := bx.at_ 1
      have hlt := bx.lt
      go_quiet ((first | (go_at_call 44; exact Calls.quiet_of_same ((powerR_any d _ (by omega)).mono fun _ _ h => ⟨h.1, h.2.symm⟩)) | (go_at_call 27; first | exact quiet_add_same ((within_any _ _ _ _).mono fun _ _ h => ⟨h.1, h.2.symm⟩) | exact Calls.quiet_of_same ((within_any _ _ _ _).mono fun _ _ h => ⟨h.1, h.2.symm⟩))))
      go_wp2_with fail
      · have h : (t % 2 == 0) = true := by assumption
        go_ret
        exact ⟨ret_int (by rw [EQ.out, if_pos (by simpa using h)]), Go.below_drewN hB _⟩
      · have h : (t % 2 == 0) = false := by assumption
        go_ret
        exact ⟨ret_int (by rw [EQ.out, if_neg (by simpa using h)]), Go.below_drewN hB _⟩
    · have HWI := (withinB_no (n := t) (lo := 1) (hi := 2 ^ d - 1) ht)
      have EQ := hide (show polyErrI (d : Int) t = 2 from by
        unfold polyErrI
        rw [if_pos (by omega), Int.toNat_natCast, if_neg ht])
      clear ht
      generalize polyErrI (d : Int) t = R at *
      go_enter Tryz.func82, Tryz.ntmps82
      go_wp2_with fail
      generalize hW : World.alloc w _ = W
      have bx : Box W w.heap.size 23 #[.int .i64 (d : Int), .int .i64 t] := by rw [← hW]; exact Box.made rfl
      have hB : Below w.heap.size w W := by rw [← hW]; exact (Below.refl _ _).alloc (Nat.le_refl _) _
      clear hW
      have x0 : W.cell? ⟨w.heap.size, 0, none⟩ = some (.int .i64 (d : Int)) := bx.at_ 0
      have x1 : W.cell? ⟨w.heap.size, 1, none⟩ = some (.int .i64 t) := bx.at_ 1
      have hlt := bx.lt
      go_quiet ((first | (go_at_call 44; exact Calls.quiet_of_same ((powerR_any d _ (by omega)).mono fun _ _ h => ⟨h.1, h.2.symm⟩)) | (go_at_call 27; first | exact quiet_add_same ((within_any _ _ _ _).mono fun _ _ h => ⟨h.1, h.2.symm⟩) | exact Calls.quiet_of_same ((within_any _ _ _ _).mono fun _ _ h => ⟨h.1, h.2.symm⟩))))
      go_wp2_with fail
      go_ret
      exact ⟨ret_int EQ.out.symm, Go.below_drewN hB _⟩
  · have EQ := hide (show polyErrI d t = 2 from by unfold polyErrI; rw [if_neg hd])
    have HW1 := (withinB_no (n := d) (lo := 1) (hi := 16) hd)
    clear hd
    generalize polyErrI d t = R at *
    go_enter Tryz.func82, Tryz.ntmps82
    go_wp2_with fail
    generalize hW : World.alloc w _ = W
    have bx : Box W w.heap.size 23 #[.int .i64 d, .int .i64 t] := by rw [← hW]; exact Box.made rfl
    have hB : Below w.heap.size w W := by rw [← hW]; exact (Below.refl _ _).alloc (Nat.le_refl _) _
    clear hW
    have x0 : W.cell? ⟨w.heap.size, 0, none⟩ = some (.int .i64 d) := bx.at_ 0
    have x1 : W.cell? ⟨w.heap.size, 1, none⟩ = some (.int .i64 t) := bx.at_ 1
    have hlt := bx.lt
    go_quiet ((first | (go_at_call 44; fail) | (go_at_call 27; first | exact quiet_add_same ((within_any _ _ _ _).mono fun _ _ h => ⟨h.1, h.2.symm⟩) | exact Calls.quiet_of_same ((within_any _ _ _ _).mono fun _ _ h => ⟨h.1, h.2.symm⟩))))
    go_wp2_with fail
    go_ret
    exact ⟨ret_int EQ.out.symm, Go.below_drewN hB _⟩
end Go.Proofs.YtcdplfjegopmdaaGreat.K
/- Hd of chapter 02, in a namespace of its own. -/
namespace Go.Proofs.YtcdplfjegopmdaaGreat.K
open Go.RowKit
set_option maxHeartbeats 1000000 in
theorem checked_any (d t : Nat) (A : Option Addr) (n c : Nat) (F : Nat → Int) (w : World) (h0 : 1 ≤ d) (h1 : d ≤ 16) (t1 : t < 2 ^ d) (hn : n ≤ 100000) (hI : IntsAt w 0 A n F) (hb : ∀ k, k < n → IsBit (F k)) :
    Calls Tryz.prog 52 #[.agg #[.int .i64 (d : Int), .int .i64 (t : Int)], .slice A n c] w fun e w' => ∃ v, e = .returned v ∧ GaveInts w (n + d) (catF n F (remB d t n F)) v w' := by
  have HI := hide hI
  have HB := hide hb
  clear hI hb
  go_enter Tryz.func52, Tryz.ntmps52
  go_wp2_with fail
  refine (remainder_any d t A n c F _ h0 h1 t1 hn (HI.out.alloc _) HB.out).mono ?_
  rintro e w1 ⟨v, rfl, A1, c1, rfl, hc1, hI1, hb1⟩
  have hB1 := below_of_alloc hb1
  have hI0 := HI.out.below hB1
  have hs1 := hB1.size
  go_wp2_with fail
  refine (concat_any w1.heap.size 24 A A1 n d c c1 2 F (remB d t n F) _ (by omega) (by omega) (Box.made rfl) (hI0.alloc _) ((hI1.weak (Nat.zero_le _)).alloc _)).mono ?_
  rintro e w2 ⟨v, rfl, A2, c2, rfl, hc2, hI2, hb2⟩
  have hB2 := hB1.trans ((below_of_alloc hb2).mono hs1)
  go_wp2_with fail
  go_ret
  exact ⟨_, rfl, A2, c2, rfl, hc2, hI2.weak (by simp; omega), hB2⟩
set_option maxHeartbeats 1000000 in
theorem isRight_any (d t : Nat) (b o n c : Nat) (F : Nat → Int) (w : World) (h0 : 1 ≤ d) (h1 : d ≤ 16) (t1 : t < 2 ^ d) (hdn : d < n) (hn : n ≤ 100000) (hnc : n ≤ c) (hc : c ≤ 9223372036854775807) (hI : IntsAt w 0 (some ⟨b, o, none⟩) n F) (hb : ∀ k, k < n → IsBit (F k)) :
    Calls Tryz.prog 78 #[.agg #[.int .i64 (d : Int), .int .i64 (t : Int)], .slice (some ⟨b, o, none⟩) n c] w fun e w' => e = .returned (.bool (intsB d (remB d t (n - d) F) d (fun j => F (n - d + j)))) ∧ Below w.heap.size w w' := by
  obtain ⟨m, hm⟩ : ∃ m : Nat, m = n - d := ⟨_, rfl⟩
  rw [← hm]
  have q1 : IntKind.i64.wrap ((n : Int) - (d : Int)) = (m : Int) := by rw [IntWalk.i64_in _ (by omega)]; omega
  have hmn : m ≤ n := by omega
  have hmnz : (m : Int) ≤ (n : Int) := by omega
  have hmcz : (m : Int) ≤ (c : Int) := by omega
  have hd : n - m = d := by omega
  have HI := hide hI
  have HB := hide hb
  have HM := hide hm
  clear hI hb hm
  go_enter Tryz.func78, Tryz.ntmps78
  go_wp2_with fail
  generalize hW : World.alloc w _ = W
  have bx : Box W w.heap.size 23 #[.int .i64 (d : Int), .int .i64 (t : Int)] := by rw [← hW]; exact Box.made rfl
  have hB : Below w.heap.size w W := by rw [← hW]; exact (Below.refl _ _).alloc (Nat.le_refl _) _
  clear hW
  have x0 : W.cell? ⟨w.heap.size, 0, none⟩ = some (.int .i64 (d : Int)) := bx.at_ 0
  have x1 : W.cell? ⟨w.heap.size, 1, none⟩ = some (.int .i64 (t : Int)) := bx.at_ 1
  have hz : w.heap.size + 1 ≤ W.heap.size := bx.lt
  have SOF := hide (fun W' (h : Below (w.heap.size + 1) W W') => (⟨(h.cell (p := ⟨w.heap.size, 0, none⟩) (by simp)).trans x0, (h.cell (p := ⟨w.heap.size, 1, none⟩) (by simp)).trans x1, h⟩ :
     W'.cell? ⟨w.heap.size, 0, none⟩ = some (.int .i64 (d : Int)) ∧ W'.cell? ⟨w.heap.size, 1, none⟩ = some (.int .i64 (t : Int)) ∧ Below (w.heap.size + 1) W W'))
  have KI := hide (fun W' (h : W'.cell? ⟨w.heap.size, 0, none⟩ = some (.int .i64 (d : Int)) ∧ W'.cell? ⟨w.heap.size, 1, none⟩ = some (.int .i64 (t : Int)) ∧ Below (w.heap.size + 1) W W') => HI.out.below (hB.trans (h.2.2.mono (by omega))))
  have b0 : Below (w.heap.size + 1) W W := Below.refl _ _
  have HBB := hide hB
  clear x0 x1 hB
  go_region_held3 (fun w' => w'.cell? ⟨w.heap.size, 0, none⟩ = some (.int .i64 (d : Int)) ∧ w'.cell? ⟨w.heap.size, 1, none⟩ = some (.int .i64 (t : Int)) ∧ Below (w.heap.size + 1) W w')
      (first | assumption | exact SOF.out _ (by assumption) | exact SOF.out _ b0.drew | exact SOF.out _ (Go.below_drewN (by assumption) _) | exact SOF.out _ (balloc' (by assumption) hz _))
      (first
        | (go_at_call 80; refine (remainder_any d t (some ⟨b, o, none⟩) m c F _ h0 h1 t1 (by omega) ((KI.out _ (by assumption)).fewer hmn) (fun k hk => HB.out k (by omega))).mono ?_; rintro e w2 ⟨v2, rfl, A2, c2, rfl, hc2, hI2, hb2⟩; have hs2 : Below (w.heap.size + 1) W w2 := bstep2 hb2 (by assumption) hz)
        | (go_at_call 111; refine (equal_any A2 (some ⟨b, o + m, none⟩) d d c2 (c - m) (remB d t m F) (fun k => F (m + k)) _ (by omega) (by omega) (hI2.weak (Nat.zero_le _)) ((KI.out _ (by assumption)).cut (by omega))).mono ?_; rintro e w3 ⟨rfl, q3, rfl⟩))
  go_wp2_with fail
  go_ret
  exact ⟨rfl, Go.below_drewN (HBB.out.trans (hs2.mono (by omega))) _⟩
def bitsErrC (n : Nat) (F : Nat → Int) : Int := firstE [firstE [unI (decide (0 < n)) 10, unI (decide (n ≤ 200)) 8], unI (bitsB n F) 15]
theorem bitsErrC_eq (n : Nat) (F : Nat → Int) : bitsErrC n F = bitsErrR n F := by
  unfold bitsErrC bitsErrR
  by_cases h1 : n = 0
  · subst h1; rfl
  · rw [if_neg h1, decide_eq_true (show 0 < n by omega)]
    by_cases h2 : 200 < n
    · rw [if_pos h2, decide_eq_false (show ¬ n ≤ 200 by omega)]; rfl
    · rw [if_neg h2, decide_eq_true (show n ≤ 200 by omega)]
      cases bitsB n F <;> rfl
theorem poly_of {d t : Int} (h : polyErrI d t = 0) : 1 ≤ d ∧ d ≤ 16 ∧ 1 ≤ t ∧ t ≤ 2 ^ d.toNat - 1 ∧ t % 2 = 1 := by
  unfold polyErrI at h
  by_cases h1 : 1 ≤ d ∧ d ≤ 16
  · rw [if_pos h1] at h
    by_cases h2 : 1 ≤ t ∧ t ≤ 2 ^ d.toNat - 1
    · rw [if_pos h2] at h
      by_cases h3 : t % 2 = 0
      · rw [if_pos h3] at h; exact absurd h (by decide)
      · exact ⟨h1.1, h1.2, h2.1, h2.2, by omega⟩
    · rw [if_neg h2] at h; exact absurd h (by decide)
  · rw [if_neg h1] at h; exact absurd h (by decide)
/-- What Remainder and Checked give: bits, or nothing and an error. -/
def GaveOr (err : Int) (n : Nat) (F : Nat → Int) (w : World) (e : Ending) (w' : World) : Prop :=
  (err ≠ 0 ∧ e = .returned (.tuple #[.slice none 0 0, .int .i64 err]) ∧ Below w.heap.size w w') ∨ (err = 0 ∧ ∃ v, e = .returned (.tuple #[v, .int .i64 0]) ∧ GaveInts w n F v w')
end Go.Proofs.YtcdplfjegopmdaaGreat.K
/- Jb of chapter 02, in a namespace of its own. -/
namespace Go.Proofs.YtcdplfjegopmdaaGreat.K
open Go.RowKit
def sizedB (n : Nat) (F : Nat → Int) (m : Int) : Bool := !anyN n fun j => !withinB (F j) (-m) m
theorem sizedB_iff {n : Nat} {F : Nat → Int} {m : Int} : sizedB n F m = true ↔ ∀ j, j < n → -m ≤ F j ∧ F j ≤ m := by
  unfold sizedB
  rw [Bool.not_eq_true', ← Bool.not_eq_true, anyN_iff]
  constructor
  · intro h j hj
    refine Classical.byContradiction fun hno => h ⟨j, hj, ?_⟩
    rw [withinB_no hno]; rfl
  · rintro h ⟨j, hj, e⟩
    rw [withinB_yes (h j hj)] at e
    cases e
def sizedErrI (n cnt : Nat) (F : Nat → Int) (m : Int) : Int := if n = 0 then 10 else if cnt < n then 8 else if sizedB n F m = true then 0 else 2
theorem sizedErr_first (n cnt : Nat) (F : Nat → Int) (m : Int) : firstE [firstE [unI (decide (0 < n)) 10, unI (decide (n ≤ cnt)) 8], unI (sizedB n F m) 2] = sizedErrI n cnt F m := by
  unfold sizedErrI
  by_cases h1 : n = 0
  · rw [if_pos h1, h1]; rfl
  · rw [if_neg h1, decide_eq_true (show 0 < n by omega)]
    by_cases h2 : cnt < n
    · rw [if_pos h2, decide_eq_false (show ¬ n ≤ cnt by omega)]; rfl
    · rw [if_neg h2, decide_eq_true (show n ≤ cnt by omega)]
      cases sizedB n F m <;> rfl
theorem sizedErr_zero {n cnt : Nat} {F : Nat → Int} {m : Int} (h : sizedErrI n cnt F m = 0) : 0 < n ∧ n ≤ cnt ∧ ∀ j, j < n → -m ≤ F j ∧ F j ≤ m := by
  unfold sizedErrI at h
  by_cases h1 : n = 0
  · rw [if_pos h1] at h; exact absurd h (by decide)
  · rw [if_neg h1] at h
    by_cases h2 : cnt < n
    · rw [if_pos h2] at h; exact absurd h (by decide)
    · rw [if_neg h2] at h
      by_cases h3 : sizedB n F m = true
      · exact ⟨by omega, by omega, sizedB_iff.1 h3⟩
      · rw [if_neg h3] at h; exact absurd h (by decide)
theorem softErr_any (A : Option Addr) (n c : Nat) (F : Nat → Int) (w : World) (hn : n ≤ 100000) (hI : IntsAt w 0 A n F) :
    Calls Tryz.prog 72 #[.slice A n c] w fun e w' => e = .returned (.int .i64 (sizedErrI n 400 F 1000000)) ∧ Below w.heap.size w w' :=
  (softError_any A n c F w hn hI).mono fun e w' h => ⟨by rw [h.1, ← sizedErr_first]; rfl, h.2⟩
set_option maxHeartbeats 1000000 in
theorem sumsErr_any (A : Option Addr) (n c : Nat) (F : Nat → Int) (w : World) (hn : n ≤ 100000) (hI : IntsAt w 0 A n F) :
    Calls Tryz.prog 76 #[.slice A n c] w fun e w' => e = .returned (.int .i64 (sizedErrI n 200 F 1000000000)) ∧ Below w.heap.size w w' := by
  have HI := hide hI
  have HF := hide (sizedErr_first n 200 F 1000000000)
  unfold sizedB at HF
  clear hI
  go_enter Tryz.func76, Tryz.ntmps76
  go_wp2_with fail
  refine (countedError_any n 200 _ hn (by omega)).mono ?_
  rintro e w1 ⟨rfl, hb1⟩
  go_wp2_with fail
  refine (areWithin_any A n c F 1000000000 _ hn (HI.out.below hb1) (by omega) (by omega)).mono ?_
  rintro e w2 ⟨rfl, hb2⟩
  go_wp2_with (go_at_call 49; refine (unless_any _ _ _).mono ?_; rintro e w' ⟨rfl, rfl⟩)
  refine (firstError_laid [firstE [unI (decide (0 < n)) 10, unI (decide (n ≤ 200)) 8], unI (!anyN n fun j => !withinB (F j) (-1000000000) 1000000000) 2] 2 _ _ rfl (by decide)).mono ?_
  rintro e w' ⟨rfl, rfl⟩
  go_wp2_with fail
  go_ret
  have s1 := hb1.size
  have s2 := hb2.size
  exact ⟨ret_int HF.out, by (repeat (first | (with_reducible exact Below.refl _ _) | (with_reducible refine Go.below_drewN ?_ _) | (with_reducible refine Below.drew ?_) | (with_reducible refine Below.alloc ?_ (by first | exact Nat.le_refl _ | (simp; done) | (simp; omega) | omega) _) | (with_reducible refine Below.trans ?_ (Below.mono hb2 (by first | exact Nat.le_refl _ | (simp; done) | (simp; omega) | omega))) | (with_reducible refine Below.trans ?_ (Below.mono hb1 (by first | exact Nat.le_refl _ | (simp; done) | (simp; omega) | omega))) | (with_reducible refine Below.setCell ?_ (by first | exact Nat.le_refl _ | (simp; done) | (simp; omega) | omega) _)))⟩
theorem lengthError_any (v : Int) (w : World) : Calls Tryz.prog 73 #[.int .i64 v] w fun e w' => e = .returned (.int .i64 (unI (withinB v 1 200) 2)) ∧ w = w' := by
  go_enter Tryz.func73, Tryz.ntmps73
  go_wp2_with (first | (go_at_call 88; refine (isWithin_any _ _ _ _).mono ?_; rintro e w' ⟨rfl, rfl⟩) | (go_at_call 49; refine (unless_any _ _ _).mono ?_; rintro e w' ⟨rfl, rfl⟩))
  go_ret
  exact ⟨rfl, rfl⟩
set_option maxHeartbeats 400000 in
theorem versionErrR_any (v : Int) (w : World) : Calls Tryz.prog 8 #[.int .i64 v] w fun e w' => e = .returned (.int .i64 (unI (withinB v 0 3) 15)) ∧ w = w' := by
  cases h : withinB v 0 3
  all_goals
    go_enter Tryz.func8, Tryz.ntmps8
    go_wp2_with fail
    refine (within_any _ _ _ _).mono ?_; rintro e w' ⟨rfl, rfl⟩
    rw [h]
    go_wp2_with fail
    go_ret
    exact ⟨rfl, rfl⟩
set_option maxHeartbeats 400000 in
theorem countErrR_any (v : Int) (w : World) : Calls Tryz.prog 84 #[.int .i64 v] w fun e w' => e = .returned (.int .i64 (unI (withinB v 1 400) 2)) ∧ w = w' := by
  cases h : withinB v 1 400
  all_goals
    go_enter Tryz.func84, Tryz.ntmps84
    go_wp2_with fail
    refine (within_any _ _ _ _).mono ?_; rintro e w' ⟨rfl, rfl⟩
    rw [h]
    go_wp2_with fail
    go_ret
    exact ⟨rfl, rfl⟩
set_option maxHeartbeats 1000000 in
theorem sizedErrR_any (A : Option Addr) (n c cnt : Nat) (m : Int) (F : Nat → Int) (w : World) (hn : n ≤ 9223372036854775807) (hc : cnt ≤ 1000) (h0 : 0 ≤ m) (h1 : m ≤ 1000000000000) (hI : IntsAt w 0 A n F) :
    Calls Tryz.prog 75 #[.slice A n c, .int .i64 (cnt : Int), .int .i64 m] w fun e w' => e = .returned (.int .i64 (sizedErrI n cnt F m)) ∧ ∃ q, w' = w.drewN q := by
  by_cases hz : n = 0
  · have EQ := hide (show sizedErrI n cnt F m = 10 from if_pos hz)
    generalize sizedErrI n cnt F m = R at *
    subst hz
    clear hI
    go_enter Tryz.func75, Tryz.ntmps75
    go_wp2_with fail
    go_ret
    exact ⟨ret_int EQ.out.symm, 0, rfl⟩
  · have t1 : ((n : Int) == 0) = false := by simp; omega
    by_cases h2 : cnt < n
    · have EQ := hide (show sizedErrI n cnt F m = 8 from by unfold sizedErrI; rw [if_neg hz, if_pos h2])
      have t2 : decide ((cnt : Int) < (n : Int)) = true := by simp; omega
      have t2' : decide (cnt < n) = true := by simp; omega
      generalize sizedErrI n cnt F m = R at *
      clear hI hz
      go_enter Tryz.func75, Tryz.ntmps75
      go_wp2_with fail
      go_ret
      exact ⟨ret_int EQ.out.symm, 0, rfl⟩
    · have EQ := hide (show sizedErrI n cnt F m = (if sizedB n F m = true then 0 else 2) from by unfold sizedErrI; rw [if_neg hz, if_neg h2])
      have t2 : decide ((cnt : Int) < (n : Int)) = false := by simp; omega
      have t2' : decide (cnt < n) = false := by simp; omega
      generalize sizedErrI n cnt F m = R at *
      have HI := hide hI
      clear hI hz
      go_enter Tryz.func75, Tryz.ntmps75
      go_wp2_with fail
      go_loopw [7] (fun i wr => ∃ k q : Nat, k ≤ n ∧ i = .int .i64 k ∧ wr = w.drewN q ∧ Hid (∀ j, j < k → -m ≤ F j ∧ F j ≤ m)) (fun i _ => n - (Go.RowKit.intOf i).toNat)
      case atStart => exact ⟨0, 0, Nat.zero_le _, rfl, rfl, hide fun j h => absurd h (Nat.not_lt_zero _)⟩
      case round =>
        obtain ⟨k, q, hk, rfl, rfl, HZ⟩ := hrel
        by_cases hlt : k < n
        · obtain ⟨b, o, rfl, -, hb, hcell⟩ := HI.out k hlt
          have hltz : (k : Int) < (n : Int) := by omega
          by_cases he : -m ≤ F k ∧ F k ≤ m
          · have HE := hide he
            have hw := withinB_yes he
            clear he
            go_wp2_with fail
            refine (within_any _ _ _ _).mono ?_; rintro e w' ⟨rfl, rfl⟩
            rw [hw]
            go_wp2_with fail
            refine ⟨⟨k + 1, q, by omega, by simp, rfl, hide fun j hj => ?_⟩, by simp [Go.RowKit.intOf]; omega⟩
            rcases Nat.lt_or_ge j k with h | h
            · exact HZ.out j h
            · obtain rfl : j = k := by omega
              exact HE.out
          · have hw := withinB_no he
            have HE := hide (show sizedB n F m = false from by
              rw [← Bool.not_eq_true, sizedB_iff]
              exact fun h => he (h k hlt))
            clear he
            go_wp2_with fail
            refine (within_any _ _ _ _).mono ?_; rintro e w' ⟨rfl, rfl⟩
            rw [hw]
            go_wp2_with fail
            go_ret
            exact ⟨ret_int (by rw [EQ.out, HE.out]; rfl), _, rfl⟩
        · obtain rfl : k = n := by omega
          go_wp2_with fail
          go_ret
          exact ⟨ret_int (by rw [EQ.out, if_pos (sizedB_iff.2 HZ.out)]), _, rfl⟩
theorem sumsErrR_any (A : Option Addr) (n c : Nat) (F : Nat → Int) (w : World) (hn : n ≤ 9223372036854775807) (hI : IntsAt w 0 A n F) :
    Calls Tryz.prog 37 #[.slice A n c] w fun e w' => e = .returned (.int .i64 (sizedErrI n 200 F 1000000000)) ∧ ∃ q, w' = w.drewN q := by
  have HX := hide (sizedErrR_any A n c 200 1000000000 F w hn (by omega) (by omega) (by omega) hI)
  clear hI
  go_enter Tryz.func37, Tryz.ntmps37
  go_wp2_with fail
  refine HX.out.mono ?_; rintro e w' ⟨rfl, q, rfl⟩
  go_wp2_with fail
  go_ret
  exact ⟨rfl, q, rfl⟩
end Go.Proofs.YtcdplfjegopmdaaGreat.K
/- BitsOf. -/
namespace Go.Proofs.YtcdplfjegopmdaaGreat
open Go.RowKit
/-- The bits of a number, the greatest power first. -/
def bitsOfF (t n : Nat) (j : Nat) : Int := ((t / 2 ^ (n - 1 - j) % 2 : Nat) : Int)
end Go.Proofs.YtcdplfjegopmdaaGreat
/- Jc of chapter 02, in a namespace of its own. -/
namespace Go.Proofs.YtcdplfjegopmdaaGreat.K
open Go.RowKit Go.Shelf
/-- What is gathered at a place behind k soft bits. -/
def gatherF (v n : Nat) (S : Nat → Int) : Nat → Nat → Int
  | 0, _ => 0
  | k + 1, p => if p = placeN v n k then gatherF v n S k p + S k else gatherF v n S k p
end Go.Proofs.YtcdplfjegopmdaaGreat.K
/- Jg of chapter 02, in a namespace of its own. -/
namespace Go.Proofs.YtcdplfjegopmdaaGreat.K
open Go
/-- An operation that is about no function. -/
def plainOp (o : Oper) : Bool := match o.op with
  | .move .. | .assign .. | .load .. | .store .. | .binOp .. | .fieldAddr .. | .indexAddr .. => true
  | _ => false
theorem run_val {P : Program} {s : Sem Value} {w : World} {r : Result Next} (h : ((do pure (.value (← s))) : Sem Next).run P w = r) : (∃ v w', r = .ok (.value v) w') ∨ (∃ w', r = .ok .skip w') ∨ ∃ x w', r = .halt x w' := by
  rw [Sem.run_bind] at h
  cases hs : s.run P w with
  | ok v w' => rw [hs] at h; exact .inl ⟨v, w', h.symm⟩
  | halt x w' => rw [hs] at h; exact .inr (.inr ⟨x, w', h.symm⟩)
theorem run_unit {P : Program} {s : Sem Unit} {w : World} {r : Result Next} (h : ((do s; pure .skip) : Sem Next).run P w = r) : (∃ v w', r = .ok (.value v) w') ∨ (∃ w', r = .ok .skip w') ∨ ∃ x w', r = .halt x w' := by
  rw [Sem.run_bind] at h
  cases hs : s.run P w with
  | ok v w' => rw [hs] at h; exact .inr (.inl ⟨w', h.symm⟩)
  | halt x w' => rw [hs] at h; exact .inr (.inr ⟨x, w', h.symm⟩)
theorem plain_result {P : Program} {o : Oper} (hp : plainOp o = true) (ρ : Operand → Value) (w : World) {r : Result Next} (h : (execOp ρ o).run P w = r) : (∃ v w', r = .ok (.value v) w') ∨ (∃ w', r = .ok .skip w') ∨ ∃ x w', r = .halt x w' := by
  unfold plainOp at hp
  unfold execOp at h
  cases ho : o.op <;> rw [ho] at hp h <;> first | (simp at hp; done) | exact run_val h | exact run_unit h | (exact .inl ⟨_, _, h.symm⟩)
theorem plain_wpIn {F : Fence} {n : Nat} {P : Program} {o : Oper} (hp : plainOp o = true) {a : Act} {w : World} {K : Act → World → Prop} {Q : Exit → Act → World → Prop} (h : o.wp P a w K Q) : o.wpIn F n P a w K Q := by
  have hd : ∀ c, o.op ≠ .defer c := fun c e => by unfold plainOp at hp; rw [e] at hp; cases hp
  refine ⟨fun f hf => ?_, ?_⟩
  · exfalso
    unfold Oper.about at hf
    unfold plainOp at hp
    cases ho : o.op <;> rw [ho] at hp hf <;> first | cases hf | cases hp
  · rw [Oper.semAt_eq _ _ _ hd]
    unfold Oper.wp at h
    rcases plain_result hp a.eval w (rfl : (execOp a.eval o).run P w = _) with ⟨v, w', e⟩ | ⟨w', e⟩ | ⟨x, w', e⟩
    · rw [e] at h ⊢; exact h
    · rw [e] at h ⊢; exact h
    · rw [e] at h ⊢; cases x <;> first | exact h | exact h.elim
theorem plain_about {P : Program} {o : Oper} (hp : plainOp o = true) (w : World) (ρ : Operand → Value) {f : FuncId} (hf : o.about P w ρ = some f) : False := by
  unfold Oper.about at hf
  unfold plainOp at hp
  cases ho : o.op <;> rw [ho] at hp hf <;> first | cases hf | cases hp
theorem wpAnyIn_of_plain {F : Fence} {n : Nat} {P : Program} {md : Region.Mode} {ops : Array Oper} {Q : Exit → Act → World → Prop} (hQ : ¬ LetsOut Q) (hp : ∀ (i : Nat) o, ops[i]? = some o → plainOp o = true) : ∀ (fuel : Nat) (listed : Array Bool) (a : Act) (w : World), wpAny P md ops Q fuel listed a w → wpAnyIn F n P md ops Q fuel listed a w
  | 0, _, _, _, h => h
  | fuel + 1, listed, a, w, h => by
    refine ⟨h.1, fun i hi => ?_⟩
    have h2 := h.2 i hi
    unfold wpOp at h2
    unfold wpOpIn
    cases ho : ops[i]? with
    | none =>
      rw [ho] at h2
      exact wpAnyIn_of_plain hQ hp fuel _ a w h2
    | some o =>
      rw [ho] at h2
      simp only at h2 ⊢
      by_cases hw : Region.wanted o (yielded ops a.tmps) = true
      · rw [if_pos hw] at h2 ⊢
        exact plain_wpIn (hp i o ho) (Oper.wp_mono (fun a' w' h' => wpAnyIn_of_plain hQ hp fuel _ a' w' h') (h2.resolve_right fun h => hQ h.2))
      · rw [if_neg hw] at h2 ⊢
        exact ⟨fun f hf => (plain_about (hp i o ho) _ _ hf).elim, wpAnyIn_of_plain hQ hp fuel _ _ w h2⟩
theorem wpIn_region_tail {F : Fence} {g : Nat} {P : Program} {id : Nat} {Q : Exit → Act → World → Prop} {a : Act} {w : World} {l : List Oper} (n : Nat) (hm : P.follows .mixedOrders = true) (hB : Region.lexTailB .any l.toArray n = true) (hp : l.all plainOp = true) (hQ : ¬ LetsOut Q)
    (h : wpStill P l.toArray { w with drawn := w.drawn + 1 } (fun a' => wpList P l.toArray Q (l.drop n) a' { w with drawn := w.drawn + 1 }) (l.take n) a) : (Code.region id l.toArray true).wpIn F g P Q a w := by
  simp only [Region.lexTailB, Bool.and_eq_true, decide_eq_true_eq] at hB
  obtain ⟨⟨⟨⟨hsel, hn⟩, hs⟩, hc⟩, hlex⟩ := hB
  have hn' : n < l.length := by simpa using hn
  have htl : (l.take n).length = n := by simp; omega
  have hdl : (l.drop n).length = l.toArray.size - n := by simp
  have inv0 : HeadInv .any l.toArray n (Array.replicate l.toArray.size false) :=
    ⟨by simp, fun j oj _ hl => (by rw [getD_replicate_false] at hl; cases hl), fun t _ ht => getD_in (by simpa using ht) (getD_replicate_false _ _)⟩
  have H := wpAnyL_lex (md := .any) (g := l.toArray.size - n) hsel hs hc hn (l.take n) 0 _ a (fun j hj => by
    have hj' : j < n := by rw [htl] at hj; exact hj
    simp [hj']) (by simpa using htl) inv0 (by rw [htl]; exact hlex) h
  refine wpIn_region_any hm (wpAnyIn_of_plain hQ (fun i o ho => ?_) _ _ _ _ ?_)
  · have hmem : o ∈ l := by
      rw [List.getElem?_toArray] at ho
      exact List.mem_of_getElem? ho
    exact List.all_eq_true.1 hp o hmem
  · have := wpAny_of_head (Q' := Q) (g := l.toArray.size - n) (fun listed a' hL => by
      have := wpAny_of_seq (md := .any) (Q' := Q) (l.drop n) n listed a' { w with drawn := w.drawn + 1 } (fun j => by simp [List.getElem?_drop]) (by rw [hdl]; exact hL.1) hL.2
      rwa [hdl] at this) _ _ _ H
    rw [htl, show n + (l.toArray.size - n) = l.toArray.size by omega] at this
    exact this
end Go.Proofs.YtcdplfjegopmdaaGreat.K
