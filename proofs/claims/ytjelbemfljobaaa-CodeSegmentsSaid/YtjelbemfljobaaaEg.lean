/- exploring: remainder -/
import Derived.Test.YtjelbemfljobaaaCd
import Derived.Test.YtjelbemfljobaaaEa
namespace Go.Proofs.Ytjelbemfljobaaa
open Go.RowKit
set_option maxHeartbeats 1000000 in
theorem remainder_any (d t : Nat) (A : Option Addr) (n c : Nat) (F : Nat → Int) (w : World) (h0 : 1 ≤ d) (h1 : d ≤ 16) (t1 : t < 2 ^ d) (hn : n ≤ 100000) (hI : IntsAt w 0 A n F) (hb : ∀ k, k < n → IsBit (F k)) :
    Calls Try.prog 98 #[.agg #[.int .i64 (d : Int), .int .i64 (t : Int)], .slice A n c] w fun e w' => ∃ v, e = .returned v ∧ GaveInts w d (remB d t n F) v w' := by
  obtain ⟨p1, p2⟩ := pow2_le d h1
  have h16 : 2 ^ d ≤ 65536 := by have : ((2 ^ d : Nat) : Int) = (2 : Int) ^ d := by simp
                                 omega
  obtain ⟨i0, hi, hz0, hz1, hz2⟩ := info_parts intInfo
  have hmk := fun W => run_make_row (P := Try.prog) 24 3 i0 (.int .i64 0) Try.underlying24 hi hz0 hz1 rfl .i64 .i64 d (by rw [hz2]; omega) (by omega) W
  have HI := hide hI
  have HB := hide hb
  clear hI hb hi hz0 hz1 hz2
  go_enter Try.func98, Try.ntmps98
  go_wp2_with fail
  have HMK := hide hmk
  clear hmk
  go_loopw [5, 13] (fun r i wr => ∃ k : Nat, k ≤ n ∧ i = .int .i64 k ∧ r = .int .i64 (remF d t F k : Nat) ∧ Box wr w.heap.size 23 #[.int .i64 (d : Int), .int .i64 (t : Int)] ∧ Below w.heap.size w wr) (fun _ i _ => n - (intOf i).toNat)
  case atStart => exact ⟨0, Nat.zero_le _, rfl, rfl, Box.made rfl, (Below.refl _ _).alloc (Nat.le_refl _) _⟩
  case round =>
    obtain ⟨k, hk, rfl, rfl, bx, hB⟩ := hrel
    have x0 := bx.at_ 0
    have x1 := bx.at_ 1
    simp only [List.getElem?_toArray] at x0 x1
    have hr := remF_lt F t1 k
    by_cases hlt : k < n
    · have hltz : (k : Int) < (n : Int) := by omega
      have hI := HI.out.below hB
      obtain ⟨b, o, rfl, -, hb, hcell⟩ := hI k hlt
      have hF := hide (HB.out k hlt)
      obtain ⟨f0, f1⟩ := (HB.out k hlt).le
      obtain ⟨fb, hfb⟩ := Int.eq_ofNat_of_zero_le f0
      have HFB := hide hfb
      rw [hfb] at hcell f0 f1
      clear hfb hF
      generalize hrr : remF d t F k = r at *
      have HR := hide hrr
      clear hrr
      have hm : (((r >>> (d - 1) : Nat) : Int)) = (r : Int) / 2 ^ (d - 1) := by rw [Nat.shiftRight_eq_div_pow]; simp
      have q0 : r >>> (d - 1) ≤ r := Nat.shiftRight_le _ _
      have hx := xorI (r >>> (d - 1)) fb (by omega) (by omega)
      rw [hm] at hx
      have hay : bits .and .i64 ((r : Int) * 2) (2 ^ d - 1) = ((2 * r % 2 ^ d : Nat) : Int) := by
        have e1 : ((r : Int) * 2) = ((2 * r : Nat) : Int) := by omega
        have e2 : ((2 : Int) ^ d - 1) = ((2 ^ d - 1 : Nat) : Int) := by
          have : ((2 ^ d : Nat) : Int) = (2 : Int) ^ d := by simp
          omega
        rw [e1, e2, andI _ _ (by omega) (by omega), Nat.and_two_pow_sub_one_eq_mod]
      have hy1 : 2 * r % 2 ^ d < 2 ^ d := Nat.mod_lt _ (Nat.two_pow_pos d)
      have HS := hide (show remF d t F (k + 1) = if r >>> (d - 1) ^^^ fb = 1 then (2 * r % 2 ^ d) ^^^ t else 2 * r % 2 ^ d from by
        show remStep d t (remF d t F k) (F k).toNat = _
        rw [HR.out, HFB.out]; rfl)
      generalize 2 * r % 2 ^ d = y at *
      generalize r >>> (d - 1) ^^^ fb = cr at *
      have hxt := xorI y t (by omega) (by omega)
      by_cases hc : cr = 1
      · have hc' : ((cr : Int) == 1) = true := by simp; omega
        have HS' := hide (HS.out.trans (if_pos hc))
        clear hc
        go_wp2_with fail
        refine (maskOf_any d t _ h1).mono ?_
        rintro e w1 ⟨rfl, hb1⟩
        have bx1 := bx.below hb1
        have y1 := bx1.at_ 1
        simp only [List.getElem?_toArray] at y1
        go_wp2_with fail
        go_roundw
        case rel => exact ⟨k + 1, by omega, by go_num, by rw [HS'.out], bx1, hB.trans (hb1.mono hB.size)⟩
        case measure => simp [intOf]; omega
      · have hc' : ((cr : Int) == 1) = false := by simp; omega
        have HS' := hide (HS.out.trans (if_neg hc))
        clear hc
        go_wp2_with fail
        refine (maskOf_any d t _ h1).mono ?_
        rintro e w1 ⟨rfl, hb1⟩
        have bx1 := bx.below hb1
        go_wp2_with fail
        go_roundw
        case rel => exact ⟨k + 1, by omega, by go_num, by rw [HS'.out], bx1, hB.trans (hb1.mono hB.size)⟩
        case measure => simp [intOf]; omega
    · obtain rfl : k = n := by omega
      have hmk := HMK.out
      have hBs := hB.size
      have hrl := remF_lt F t1 k
      generalize hrr : remF d t F k = r at *
      have HR := hide hrr
      clear hrr
      obtain ⟨wo, rfl⟩ : ∃ wo : World, wo = wr := ⟨_, rfl⟩
      go_wp2_with fail
      clear hmk
      go_loopw [41] (fun i wv => ∃ j : Nat, j ≤ d ∧ i = .int .i64 j ∧ wv.rowIs wo.heap.size 3 d (fun x => .int .i64 (if x < j then ((r >>> (d - 1 - x) &&& 1 : Nat) : Int) else 0)) ∧ Box wv w.heap.size 23 #[.int .i64 (d : Int), .int .i64 (t : Int)] ∧ Below w.heap.size w wv) (fun i _ => d - (intOf i).toNat)
      case atStart =>
        exact ⟨0, Nat.zero_le _, rfl, (World.rowIs_made wo (.int .i64 0) d 3).congr (fun j _ => by simp), bx.alloc _, hB.alloc hBs _⟩
      case round =>
        obtain ⟨j, hj, rfl, hR, bz, hBz⟩ := hrel
        have z0 := bz.at_ 0
        simp only [List.getElem?_toArray] at z0
        by_cases hlj : j < d
        · have hltj : (j : Int) < (d : Int) := by omega
          have hc := hR.cell hlj
          have hf := hR.frozen j
          have hand := andI (r >>> (d - 1 - j)) 1 (by have := Nat.shiftRight_le r (d - 1 - j); omega) (by decide)
          rw [show (((r >>> (d - 1 - j) : Nat) : Int)) = (r : Int) / 2 ^ (d - 1 - j) from by rw [Nat.shiftRight_eq_div_pow]; simp] at hand
          have HA := hide (show (Value.int .i64 (bits .and .i64 ((r : Int) / 2 ^ (d - 1 - j)) 1)) = .int .i64 ((r >>> (d - 1 - j) &&& 1 : Nat) : Int) from by rw [← hand]; rfl)
          clear hand
          go_wp2_with fail
          go_roundw
          case rel =>
            rw [HA.out]
            exact ⟨j + 1, by omega, by go_num, (hR.set j _).congr (fun x _ => by
              by_cases e : x = j
              · subst e
                rw [if_pos rfl, if_pos (Nat.lt_succ_self _)]
              · rw [if_neg e]
                by_cases e2 : x < j
                · rw [if_pos e2, if_pos (by omega)]
                · rw [if_neg e2, if_neg (by omega)]), bz.other (by show w.heap.size ≠ wo.heap.size; have := bx.lt; omega) _, hBz.setCell (by exact hBs) _⟩
          case measure => simp [intOf]; omega
        · obtain rfl : j = d := by omega
          go_wp2_with fail
          go_ret
          exact ⟨_, rfl, GaveInts.of_row (hR.congr (fun x hx => by rw [if_pos hx]; unfold remB; rw [HR.out])) hBs hBz⟩
end Go.Proofs.Ytjelbemfljobaaa
