/- onesOf, ones, DistanceOf of a right code. -/
import Derived.Test.YtdimjagmecnldaaKm
import Derived.Test.YtdimjagmecnldaaGc
import Derived.Test.YtdimjagmecnldaaEi
import Derived.Test.YtdimjagmecnldaaFb
import Derived.BigQuiet
namespace Go.Proofs.Ytdimjagmecnldaa
open Go.RowKit Go.Shelf
theorem onesN_zero : ∀ k, onesN k 0 = 0
  | 0 => rfl
  | k + 1 => by show 0 % 2 + onesN k (0 / 2) = 0; rw [show 0 / 2 = 0 from rfl, onesN_zero k]
theorem onesN_le : ∀ k i, onesN k i ≤ k
  | 0, _ => Nat.le_refl _
  | k + 1, i => by
    have := onesN_le k (i / 2)
    show i % 2 + onesN k (i / 2) ≤ k + 1
    omega
set_option maxHeartbeats 400000 in
theorem onesOf_any (k n : Nat) (w : World) (hk : k ≤ 20) (hn : n < 2 ^ k) : Calls Try.prog 66 #[.int .i64 (n : Int)] w fun e w' => e = .returned (.int .i64 ((onesN k n : Nat) : Int)) ∧ w = w' := by
  have hn9 : n < 2 ^ 20 := Nat.lt_of_lt_of_le hn (Nat.pow_le_pow_right (by decide) hk)
  have HL := hide (onesN_le k n)
  go_enter Try.func66, Try.ntmps66
  go_wp2
  go_loop [0, 3] (fun x a => ∃ j y c : Nat, x = .int .i64 (y : Int) ∧ a = .int .i64 (c : Int) ∧ y ≤ n ∧ Hid (y < 2 ^ j ∧ c + onesN j y = onesN k n)) (fun x _ => (intOf x).toNat)
  case atStart => exact ⟨k, n, 0, rfl, rfl, Nat.le_refl _, hide ⟨hn, by omega⟩⟩
  case round =>
    obtain ⟨j, y, c, rfl, rfl, hy, H⟩ := hrel
    by_cases h0 : 0 < y
    · have hz : (0 : Int) < (y : Int) := by omega
      have t : decide (0 < y) = true := by simpa using h0
      have hc : c ≤ 20 := by have := H.out.2; have := HL.out; omega
      obtain ⟨j, rfl⟩ : ∃ i, j = i + 1 := ⟨j - 1, by
        rcases Nat.eq_zero_or_pos j with e | e
        · subst e; have := H.out.1; omega
        · omega⟩
      go_wp2
      go_round
      case rel => exact ⟨j, y / 2, c + y % 2, by simp, by simp, by omega, hide ⟨by have := H.out.1; rw [Nat.pow_succ] at this; omega, by have h1 := H.out.2; have h2 : onesN (j + 1) y = y % 2 + onesN j (y / 2) := rfl; omega⟩⟩
      case measure => simp [intOf]; omega
    · have hy0 : y = 0 := by omega
      subst hy0
      go_wp2
      go_ret
      exact ⟨ret_int (by have := H.out.2; rw [onesN_zero] at this; omega), rfl⟩
theorem wt_le {W : Nat → Int} (h : ∀ j, IsBit (W j)) : ∀ n, wt n W ≤ n
  | 0 => Int.le_refl _
  | n + 1 => by
    have h1 := wt_le h n
    have h2 := (h n).le
    show wt n W + W n ≤ _
    omega
set_option maxHeartbeats 1000000 in
theorem ones_any (A : Option Addr) (n c : Nat) (W : Nat → Int) (w : World) (hn : n ≤ 100000) (hI : IntsAt w 0 A n W) (hb : ∀ j, IsBit (W j)) :
    Calls Try.prog 37 #[.slice A n c] w fun e w' => e = .returned (.int .i64 (wt n W)) ∧ ∃ q, w' = w.drewN q := by
  have HI := hide hI
  have HB := hide hb
  clear hI hb
  go_enter Try.func37, Try.ntmps37
  go_wp2_with fail
  go_loopw [3, 4] (fun a i wr => ∃ k q : Nat, k ≤ n ∧ i = .int .i64 k ∧ a = .int .i64 (wt k W) ∧ wr = w.drewN q) (fun _ i _ => n - (intOf i).toNat)
  case atStart => exact ⟨0, 0, Nat.zero_le _, rfl, rfl, rfl⟩
  case round =>
    obtain ⟨k, q, hk, rfl, rfl, rfl⟩ := hrel
    by_cases hlt : k < n
    · obtain ⟨b, o, rfl, -, hb, hcell⟩ := HI.out k hlt
      have hltz : (k : Int) < (n : Int) := by omega
      have hw0 := wt_nonneg HB.out k
      have hw1 := wt_le HB.out k
      have hx := (HB.out k).le
      have HS := hide (show wt (k + 1) W = wt k W + W k from rfl)
      have hm : W k % 2 = W k := by omega
      have q1 : IntKind.i64.wrap (wt k W + W k) = wt k W + W k := IntWalk.i64_in _ (by omega)
      go_wp2_with fail
      refine (mod_any _ _ _ (by decide) (by decide)).mono ?_
      rintro r w2 ⟨rfl, rfl⟩
      rw [hm]
      go_wp2_with fail
      refine ⟨⟨k + 1, q, by omega, by simp, by rw [HS.out], rfl⟩, by simp [intOf]; omega⟩
    · obtain rfl : k = n := by omega
      go_wp2_with fail
      go_ret
      exact ⟨rfl, _, rfl⟩
set_option maxHeartbeats 2000000 in
theorem DistanceOf_ok (p : Nat) (A : Option Addr) (n c : Nat) (F : Nat → Int) (w : World) (hok : PolarOk p n F) (hn : n ≤ 200) (hI : IntsAt w 0 A n F) :
    Calls Try.prog 36 #[.agg #[.int .i64 (p : Int), .slice A n c]] w fun e w' => ∃ b v, b < n ∧ (∀ j, j < n → onesN p (F b).toNat ≤ onesN p (F j).toNat) ∧ e = .returned (.tuple #[.int .i64 (2 ^ onesN p (F b).toNat), v, .int .i64 0]) ∧ GaveInts w n (fun j => if j = b then 1 else 0) v w' := by
  have hp := hok.power
  have hn0 := hok.some_
  have HOK := hide hok
  have HI := hide hI
  obtain ⟨i0, hi, hz0, hz1, hz2⟩ := info_parts intInfo
  have hmk := fun W => run_make_row (P := Try.prog) 22 3 i0 (.int .i64 0) Try.underlying22 hi hz0 hz1 rfl .i64 .i64 n (by rw [hz2]; omega) (by omega) W
  have HMK := hide hmk
  have HR := hide (show ∀ j, j < n → ∃ f : Nat, F j = (f : Int) ∧ f < 2 ^ p from fun j hj => by
    have h := hok.range j hj
    have e : ((2 ^ p : Nat) : Int) = (2 : Int) ^ p := by simp
    exact ⟨(F j).toNat, by omega, by omega⟩)
  clear hI hok hi hz0 hz1 hz2 hmk
  go_enter Try.func36, Try.ntmps36
  go_wp2_with fail
  refine (checkPolar_ok p A n c F _ HOK.out (by omega) (HI.out.alloc _)).mono ?_
  rintro r w1 ⟨rfl, hb1⟩
  have bx1 : Box w1 w.heap.size 51 #[.int .i64 (p : Int), .slice A n c] := (Box.made rfl).below hb1
  have hB1 := below_of_alloc hb1
  have x1 : w1.cell? ⟨w.heap.size, 1, none⟩ = some (.slice A n c) := bx1.at_ 1
  have hlt1 := bx1.lt
  have HI1 := hide (HI.out.below hB1)
  clear hb1
  go_wp2_with fail
  go_loopw [6, 18] (fun f i wr => ∃ k b q : Nat, k ≤ n ∧ i = .int .i64 k ∧ f = .int .i64 b ∧ b < n ∧ Hid (∀ j, j < k → onesN p (F b).toNat ≤ onesN p (F j).toNat) ∧ wr = w1.drewN q) (fun _ i _ => n - (intOf i).toNat)
  case atStart => exact ⟨0, 0, 0, Nat.zero_le _, rfl, rfl, hn0, hide fun j h => absurd h (Nat.not_lt_zero _), rfl⟩
  case round =>
    obtain ⟨k, b, q, hk, rfl, rfl, hbn, HZ, rfl⟩ := hrel
    by_cases hlt : k < n
    · have hltz : (k : Int) < (n : Int) := by omega
      have hbz : (b : Int) < (n : Int) := by omega
      obtain ⟨b1, o1, rfl, -, hb1, hcell1⟩ := HI1.out k hlt
      obtain ⟨b2, o2, e2, -, hb2, hcell2⟩ := HI1.out b hbn
      injection e2 with e2; injection e2 with e2 e3; subst e2; subst e3
      obtain ⟨f1, hf1, hp1⟩ := HR.out k hlt
      obtain ⟨f2, hf2, hp2⟩ := HR.out b hbn
      have H1 := hide (show (F k).toNat = f1 by omega)
      have H2 := hide (show (F b).toNat = f2 by omega)
      rw [hf1] at hcell1
      rw [hf2] at hcell2
      clear hf1 hf2
      by_cases hl : onesN p f1 < onesN p f2
      · have hlz : ((onesN p f1 : Nat) : Int) < ((onesN p f2 : Nat) : Int) := by omega
        have HL := hide hl
        go_wp2_with fail
        go_quiet ((go_at_call 66; first | exact quiet_add_same ((onesOf_any p _ _ (by omega) (by first | exact hp1 | exact hp2)).mono fun _ _ h => ⟨h.1, h.2.symm⟩) | exact Calls.quiet_of_same ((onesOf_any p _ _ (by omega) (by first | exact hp1 | exact hp2)).mono fun _ _ h => ⟨h.1, h.2.symm⟩)))
        go_wp2_with fail
        refine ⟨⟨k + 1, k, q + _, by omega, by simp, rfl, hlt, hide fun j hj => ?_, rfl⟩, by simp [intOf]; omega⟩
        rcases Nat.lt_or_ge j k with h | h
        · have h1 := HZ.out j h
          rw [H2.out] at h1
          rw [H1.out]
          exact Nat.le_trans (Nat.le_of_lt HL.out) h1
        · rw [show j = k by omega]; exact Nat.le_refl _
      · have hlz : ¬ ((onesN p f1 : Nat) : Int) < ((onesN p f2 : Nat) : Int) := by omega
        have HL := hide hl
        go_wp2_with fail
        go_quiet ((go_at_call 66; first | exact quiet_add_same ((onesOf_any p _ _ (by omega) (by first | exact hp1 | exact hp2)).mono fun _ _ h => ⟨h.1, h.2.symm⟩) | exact Calls.quiet_of_same ((onesOf_any p _ _ (by omega) (by first | exact hp1 | exact hp2)).mono fun _ _ h => ⟨h.1, h.2.symm⟩)))
        go_wp2_with fail
        refine ⟨⟨k + 1, b, q + _, by omega, by simp, rfl, hbn, hide fun j hj => ?_, rfl⟩, by simp [intOf]; omega⟩
        rcases Nat.lt_or_ge j k with h | h
        · exact HZ.out j h
        · rw [show j = k by omega, H1.out, H2.out]; exact Nat.le_of_not_lt HL.out
    · obtain rfl : k = n := by omega
      have hmk := HMK.out
      have bx2 := bx1.drewN q
      have hB2 := below_drewN hB1 q
      have hHI := HI1.out.drewN q
      obtain ⟨b2, o2, rfl, -, hb2, hcell2⟩ := hHI b hbn
      have HI2 := hide hHI
      obtain ⟨f2, hf2, hp2⟩ := HR.out b hbn
      rw [hf2] at hcell2
      have H2 := hide (show (F b).toNat = f2 by omega)
      have hbz : (b : Int) < (k : Int) := by omega
      clear hf2 hHI
      generalize w1.drewN q = w2 at *
      have x1 : w2.cell? ⟨w.heap.size, 1, none⟩ = some (.slice (some ⟨b2, o2, none⟩) k c) := bx2.at_ 1
      have hlt2 := bx2.lt
      have hR := World.rowIs_made w2 (.int .i64 0) k 3
      have hc := hR.cell hbn
      have hfz := hR.frozen b
      have hL2 : onesN p f2 ≤ 6 := Nat.le_trans (onesN_le p f2) hp
      go_wp2_with fail
      refine (onesOf_any p f2 _ (by omega) hp2).mono ?_
      rintro r w3 ⟨rfl, hw3⟩
      have hB3 : Below w.heap.size w w3 := by rw [← hw3]; exact hB2.alloc hB2.size _
      have bx3 : Box w3 w2.heap.size 3 ((madeCells #[Value.int .i64 0] k).setIfInBounds b (.int .i64 1)) := by rw [← hw3]; exact Box.made rfl
      have hI3 : IntsAt w3 w.heap.size (some ⟨w2.heap.size, 0, none⟩) k (fun j => if j = b then 1 else 0) := fun j hj => by
        refine ⟨w2.heap.size, 0, rfl, hB2.size, bx3.lt, ?_⟩
        rw [Nat.zero_add, bx3.at_ j]
        by_cases e : j = b
        · subst e
          simp [madeCells, hj]
        · simp [madeCells, hj, e, Nat.mod_one, Array.getElem?_setIfInBounds, show ¬ b = j from fun h => e h.symm]
      clear hw3 hR hc hfz
      have hw64 : wrap64 (2 ^ onesN p f2) = 2 ^ onesN p f2 := by
        obtain ⟨p1, p2⟩ := pow2_le (onesN p f2) (by omega)
        unfold wrap64; omega
      go_wp2_with fail
      refine bodyPost_ret (v := .tuple #[.int .i64 (2 ^ onesN p f2), .slice (some ⟨w2.heap.size, 0, none⟩) k k, .int .i64 0]) ?_ rfl ?_
      · simp [results, Try.results36, go_sem]
        exact hw64
      · exact ⟨b, _, hbn, HZ.out, by rw [H2.out], _, _, rfl, Nat.le_refl _, hI3, hB3⟩
end Go.Proofs.Ytdimjagmecnldaa
