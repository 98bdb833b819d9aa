/- cancelled, by halves -/
import Derived.Test.YtjelbemfljobaaaEl
import Derived.Test.YtjelbemfljobaaaEk
import Derived.Deep.RegionWith
namespace Go.Proofs.Ytjelbemfljobaaa
open Go.RowKit Go.Lib

/-- The contract of cancelled at n soft bits of size M at most. -/
def CancelSaid (k : Nat) : Prop := ∀ (n ib io ic sb so sc : Nat) (M : Int) (I : Nat → Bool) (S : Nat → Int) (w : World), n = 2 ^ k → n ≤ ic → n ≤ sc → ic ≤ 1000000 → sc ≤ 9223372036854775807 → M * 2 ^ k ≤ 1000000000000 → (∀ j, j < n → -M ≤ S j ∧ S j ≤ M) →
  BoolsAt w (some ⟨ib, io, none⟩) n I → IntsAt w 0 (some ⟨sb, so, none⟩) n S →
  Calls Try.prog 110 #[.slice (some ⟨ib, io, none⟩) n ic, .slice (some ⟨sb, so, none⟩) n sc] w fun e w' => ∃ v, e = .returned v ∧ GaveInts w n (cancelF k I S) v w'

theorem cancelF_succ (k : Nat) (I : Nat → Bool) (S : Nat → Int) (N : Nat) (hN : N = 2 ^ k) (x : Nat) : cancelF (k + 1) I S x = if x < N then cancelF k I (fun i => lesserI (S i) (S (N + i))) x
    else cancelF k (fun i => I (N + i)) (fun i => farF (wordF N (cancelF k I (fun i => lesserI (S i) (S (N + i)))) i) (S i) (S (N + i))) (x - N) := by
  subst hN
  rfl
theorem farF_le {v a b M : Int} (ha : -M ≤ a ∧ a ≤ M) (hb : -M ≤ b ∧ b ≤ M) : -(2 * M) ≤ farF v a b ∧ farF v a b ≤ 2 * M := by
  unfold farF; split <;> omega

set_option maxHeartbeats 8000000 in
set_option maxRecDepth 100000 in
theorem cancelled_step (k : Nat) (hk : k ≤ 8) (ih : CancelSaid k) : CancelSaid (k + 1) := by
  intro n ib io ic sb so sc M I S w hn hic hsc hic9 hsc9 hM hS9 hI hS
  obtain ⟨N, hN⟩ : ∃ N, N = 2 ^ k := ⟨_, rfl⟩
  have hnN : n = N + N := by rw [hn, Nat.pow_succ, ← hN]; omega
  have hN1 : 1 ≤ N := by rw [hN]; exact Nat.two_pow_pos k
  have hN9 : N ≤ 256 := by rw [hN]; exact Nat.pow_le_pow_right (by decide) hk
  have IH := hide ih
  have HN := hide hN
  have hdiv : (n : Int) / 2 = (N : Int) := by omega
  have hne1 : ((n : Int) == 1) = false := by simp; omega
  have HnN := hide hnN
  have hsub : n - N = N := by omega
  have hlt1 : N < n := by omega
  have hc1 : N < sc := by omega
  have hc2 : N < ic := by omega
  clear hn ih hN
  obtain ⟨i0, hi, hz0, hz1, hz2⟩ := info_parts intInfo
  have hmk := fun W => run_make_row (P := Try.prog) 24 3 i0 (.int .i64 0) Try.underlying24 hi hz0 hz1 rfl .i64 .i64 N (by rw [hz2]; omega) (by omega) W
  have HI := hide hI
  have HS := hide hS
  have HS9 := hide hS9
  have HM := hide hM
  clear hI hS hS9 hM hi hz0 hz1 hz2 hnN
  go_enter Try.func110, Try.ntmps110
  go_wp2_with fail
  go_quiet (fail)
  go_wp2_with fail
  clear hmk
  have hM0 : 0 ≤ M := by have := HS9.out 0 (by omega); omega
  have hM9 : M ≤ 1000000000000 := by
    have h := HM.out
    have h1 : 1 ≤ (2 : Int) ^ (k + 1) := by
      have : ((2 ^ (k + 1) : Nat) : Int) = (2 : Int) ^ (k + 1) := by simp
      have := Nat.two_pow_pos (k + 1)
      omega
    have := Int.mul_le_mul_of_nonneg_left h1 hM0
    omega
  go_loopw [40] (fun i wr => ∃ j : Nat, j ≤ N ∧ i = .int .i64 j ∧ wr.rowIs w.heap.size 3 N (fun x => .int .i64 (if x < j then lesserI (S x) (S (N + x)) else 0)) ∧ Below w.heap.size w wr) (fun i _ => N - (intOf i).toNat)
  case atStart =>
    refine ⟨0, Nat.zero_le _, rfl, ?_, by (repeat (first | (with_reducible exact Below.refl _ _) | (with_reducible refine below_drewN ?_ _) | (with_reducible refine Below.drew ?_) | (with_reducible refine Below.alloc ?_ (by first | exact Nat.le_refl _ | (simp; done) | (simp; omega) | omega) _) | (with_reducible refine Below.setCell ?_ (by first | exact Nat.le_refl _ | (simp; done) | (simp; omega) | omega) _)))⟩
    have h := World.rowIs_made (w.drewN nq) (.int .i64 0) N 3
    exact h.congr (fun _ _ => by simp)
  case round =>
    obtain ⟨j, hj, rfl, hR, hB⟩ := hrel
    by_cases hlt : j < N
    · have hltz : (j : Int) < (N : Int) := by omega
      have hS1 := HS.out.below hB
      have hS2 := IntsAt.cut (j := N) (m := N) hS1 (by have := HnN.out; omega)
      obtain ⟨b1, o1, e1, -, hb1, hx1⟩ := hS1 j (by have := HnN.out; omega)
      injection e1 with e1; injection e1 with e1 e2; subst e1; subst e2
      obtain ⟨b2, o2, e1, -, hb2, hx2⟩ := hS2 j hlt
      injection e1 with e1; injection e1 with e1 e2; subst e1; subst e2
      have hc := hR.cell hlt
      have hf := hR.frozen j
      have hl1 := HS9.out j (by have := HnN.out; omega)
      have hl2 := HS9.out (N + j) (by have := HnN.out; omega)
      have HLL := hide (fun W => lesser_any (S j) (S (N + j)) W (by omega) (by omega))
      clear hl1 hl2 hS1 hS2
      go_wp2_with fail
      go_still_tail 12, (by kernel_rfl)
      repeat (first | still_step | still_call ((HLL.out _).mono fun _ _ h => ⟨h.1, h.2.symm⟩))
      try refine wpStill_nil ?_
      go_wp2_with fail
      go_roundw
      case rel =>
        exact ⟨j + 1, by omega, by go_num, (hR.drew.set j _).congr (fun x _ => by
          by_cases e : x = j
          · subst e
            rw [if_pos rfl, if_pos (Nat.lt_succ_self _)]
          · rw [if_neg e]
            by_cases e2 : x < j
            · rw [if_pos e2, if_pos (by omega)]
            · rw [if_neg e2, if_neg (by omega)]), (hB.drew).setCell (by exact Nat.le_refl _) _⟩
      case measure => simp [intOf]; omega
    · obtain rfl : j = N := by omega
      obtain ⟨wo, rfl⟩ : ∃ wo : World, wo = wr := ⟨_, rfl⟩
      have hBs := hB.size
      have hgl := hR.lt
      have hR1 := hR.congr (g := fun x => .int .i64 (lesserI (S x) (S (j + x)))) (fun x hx => by rw [if_pos hx])
      have h2k : M * 2 ^ k ≤ 1000000000000 := by
        have h := HM.out
        have e : M * 2 ^ (k + 1) = 2 * (M * 2 ^ k) := by rw [Int.pow_succ, ← Int.mul_assoc]; omega
        have h0 : 0 ≤ M * 2 ^ k := Int.mul_nonneg hM0 (Int.le_of_lt (Int.pow_pos (by decide)))
        omega
      go_wp2_with fail
      refine (IH.out j ib io ic w.heap.size 0 j M I (fun i => lesserI (S i) (S (j + i))) wo HN.out (by omega) (Nat.le_refl _) hic9 (by omega) h2k (fun x hx => lesserI_le (HS9.out x (by have := HnN.out; omega)) (HS9.out (j + x) (by have := HnN.out; omega))) ((HI.out.below hB).fewer (by omega)) (IntsAt.of_row hR1 (Nat.zero_le _))).mono ?_
      rintro e w1 ⟨v1, rfl, A1, c1, rfl, hc1', hI1, hb1⟩
      go_wp2_with fail
      refine (wordOf_any A1 j c1 _ _ (by omega) (hI1.weak (Nat.zero_le _)) (fun x _ => cancelF_bit k _ _ x)).mono ?_
      rintro e w2 ⟨v2, rfl, A2, c2, rfl, hc2', hI2, hb2⟩
      go_wp2_with fail
      have hB2 : Below w.heap.size w w2 := (hB.trans (hb1.mono hBs)).trans (hb2.mono (Nat.le_trans hBs hb1.size))
      have hR2 := rowIs_below (rowIs_below hR1 hb1) hb2
      have hI1' := (hI1.below hb2).weak (show w.heap.size + 1 ≤ wo.heap.size from hgl)
      have hI2' := hI2.weak (show w.heap.size + 1 ≤ w1.heap.size from Nat.le_trans hgl hb1.size)
      have EF := hide (cancelF_succ k I S j HN.out)
      have hVb : ∀ x, IsBit (wordF j (cancelF k I fun i => lesserI (S i) (S (j + i))) x) := wordF_bit _ _
      generalize cancelF k I (fun i => lesserI (S i) (S (j + i))) = U at *
      generalize wordF j U = V at *
      have HVB := hide hVb
      clear hI1 hI2 hb1 hb2 hR hR1 hVb hBs
      go_loopw [64] (fun i wx => ∃ m : Nat, m ≤ j ∧ i = .int .i64 m ∧ wx.rowIs w.heap.size 3 j (fun x => .int .i64 (if x < m then farF (V x) (S x) (S (j + x)) else lesserI (S x) (S (j + x)))) ∧
          IntsAt wx (w.heap.size + 1) A1 j U ∧ IntsAt wx (w.heap.size + 1) A2 j V ∧ Below w.heap.size w wx) (fun i _ => j - (intOf i).toNat)
      case atStart => exact ⟨0, Nat.zero_le _, rfl, hR2.congr (fun x _ => by rw [if_neg (Nat.not_lt_zero _)]), hI1', hI2', hB2⟩
      case round =>
        clear hI1' hI2' hR2 hB2
        obtain ⟨m, hm, rfl, hR, hI1, hI2, hBm⟩ := hrel
        by_cases hlm : m < j
        · have hltm : (m : Int) < (j : Int) := by omega
          have hS1 := HS.out.below hBm
          have hS2 := IntsAt.cut (j := j) (m := j) hS1 (by have := HnN.out; omega)
          obtain ⟨b1, o1, e1, -, hb1, hx1⟩ := hS1 m (by have := HnN.out; omega)
          injection e1 with e1; injection e1 with e1 e2; subst e1; subst e2
          obtain ⟨b2, o2, e1, -, hb2, hx2⟩ := hS2 m hlm
          injection e1 with e1; injection e1 with e1 e2; subst e1; subst e2
          have hI2c := hI2
          obtain ⟨b3, o3, rfl, hlo3, hb3, hx3⟩ := hI2 m hlm
          have hc := hR.cell hlm
          have hf := hR.frozen m
          obtain ⟨l1, l2⟩ := HS9.out m (by have := HnN.out; omega)
          obtain ⟨l3, l4⟩ := HS9.out (j + m) (by have := HnN.out; omega)
          have q1 : IntKind.i64.wrap (S (j + m) - S m) = S (j + m) - S m := IntWalk.i64_in _ (by omega)
          have q2 : IntKind.i64.wrap (S (j + m) + S m) = S (j + m) + S m := IntWalk.i64_in _ (by omega)
          by_cases hv : V m = 1
          · have HV := hide hv
            rw [hv] at hx3
            clear hS1 hS2 hv hI2 l1 l2 l3 l4
            go_wp2_with fail
            go_still_tail 12, (by kernel_rfl)
            repeat still_step
            try refine wpStill_nil ?_
            go_wp2_with fail
            go_roundw
            case rel =>
              exact ⟨m + 1, by omega, by go_num, (hR.drew.set m _).congr (fun x _ => by
                by_cases e : x = m
                · subst e
                  rw [if_pos rfl, if_pos (Nat.lt_succ_self _), HV.out]; rfl
                · rw [if_neg e]
                  by_cases e2 : x < m
                  · rw [if_pos e2, if_pos (by omega)]
                  · rw [if_neg e2, if_neg (by omega)]), hI1.drew.other (Nat.lt_succ_self _) _, hI2c.drew.other (Nat.lt_succ_self _) _, (hBm.drew).setCell (by exact Nat.le_refl _) _⟩
            case measure => simp [intOf]; omega
          · have hv' : (V m == 1) = false := by simpa using hv
            have HV := hide (show farF (V m) (S m) (S (j + m)) = S (j + m) + S m from if_neg hv)
            clear hS1 hS2 hv hI2 l1 l2 l3 l4
            go_wp2_with fail
            go_still_tail 12, (by kernel_rfl)
            repeat still_step
            try refine wpStill_nil ?_
            go_wp2_with fail
            go_roundw
            case rel =>
              exact ⟨m + 1, by omega, by go_num, (hR.drew.set m _).congr (fun x _ => by
                by_cases e : x = m
                · subst e
                  rw [if_pos rfl, if_pos (Nat.lt_succ_self _), HV.out]
                · rw [if_neg e]
                  by_cases e2 : x < m
                  · rw [if_pos e2, if_pos (by omega)]
                  · rw [if_neg e2, if_neg (by omega)]), hI1.drew.other (Nat.lt_succ_self _) _, hI2c.drew.other (Nat.lt_succ_self _) _, (hBm.drew).setCell (by exact Nat.le_refl _) _⟩
            case measure => simp [intOf]; omega
        · obtain rfl : m = j := by omega
          obtain ⟨wy, rfl⟩ : ∃ wy : World, wy = wr := ⟨_, rfl⟩
          have hBs := hBm.size
          have hgl := hR.lt
          have hR1 := hR.congr (g := fun x => .int .i64 (farF (V x) (S x) (S (m + x)))) (fun x hx => by rw [if_pos hx])
          go_wp2_with fail
          refine (IH.out m ib (io + m) (ic - m) w.heap.size 0 m (2 * M) (fun x => I (m + x)) (fun i => farF (V i) (S i) (S (m + i))) wy HN.out (by have := HnN.out; omega) (Nat.le_refl _) (by omega) (by omega)
            (by have h := HM.out; rw [Int.pow_succ, ← Int.mul_assoc] at h; rw [Int.mul_assoc]; omega)
            (fun x hx => farF_le (HS9.out x (by have := HnN.out; omega)) (HS9.out (m + x) (by have := HnN.out; omega))) ((HI.out.below hBm).cut (by have := HnN.out; omega)) (IntsAt.of_row hR1 (Nat.zero_le _))).mono ?_
          rintro e w3 ⟨v3, rfl, A3, c3, rfl, hc3', hI3, hb3⟩
          have hI1' := hI1.below hb3
          have hb3s := hb3.size
          go_wp2_with fail
          have bx : Box (w3.alloc (.cells #[.slice A1 m c1, .slice A3 m c3] 24)) w3.heap.size 24 #[.slice A1 m c1, .slice A3 m c3] := Box.made rfl
          refine (concat_any w3.heap.size 24 A1 A3 m m c1 c3 2 U (cancelF k (fun x => I (m + x)) (fun i => farF (V i) (S i) (S (m + i)))) _ (by omega) (by omega) bx ((hI1'.weak (Nat.zero_le _)).alloc _) ((hI3.weak (Nat.zero_le _)).alloc _)).mono ?_
          rintro e w4 ⟨v4, rfl, A4, c4, rfl, hc4', hI4, hb4⟩
          go_wp2_with fail
          go_ret
          have hB3 : Below w.heap.size w w3 := hBm.trans (hb3.mono hBs)
          have hB4 : Below w.heap.size w w4 := (hB3.alloc hB3.size _).trans (hb4.mono (by simp; omega))
          have hnn := HnN.out
          clear hdiv hsub hlt1 hne1
          refine ⟨.slice A4 (m + m) c4, rfl, A4, c4, by rw [hnn], by rw [hnn]; exact hc4', ?_, hB4⟩
          rw [hnn]
          exact (hI4.weak (by simp; omega)).congr fun x hx => (EF.out x).symm
theorem cancelled_zero : CancelSaid 0 := by
  intro n ib io ic sb so sc M I S w hn _ _ _ _ _ _ hI hS
  obtain rfl : n = 1 := by rw [hn]
  exact cancelled_one ib io ic sb so sc I S w hI hS
theorem cancelled_any : ∀ k, k ≤ 9 → CancelSaid k
  | 0, _ => cancelled_zero
  | k + 1, h => cancelled_step k (by omega) (cancelled_any k (by omega))
end Go.Proofs.Ytjelbemfljobaaa
