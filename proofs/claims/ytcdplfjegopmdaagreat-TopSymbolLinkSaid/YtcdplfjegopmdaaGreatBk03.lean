/- Lemmas: KEl, KEm, KEn, KFa, Eo, KEo, KEr. -/
import Derived.Deep.RegionWith
import Derived.RangeFuncNested
import Derived.RangeFuncBound
import Derived.RangeFuncCalls
import Derived.RangeFuncLeaves
import Derived.Shelf.Abstract
import Derived.Shelf.RegionOpen
import Derived.OwnWalkIn
import Derived.TacticsInMore
import Derived.LoopNIn
import Derived.LoopIn
import Derived.Test.YtcdplfjegopmdaaGreatBk01
import Derived.Test.YtcdplfjegopmdaaGreatBk02
set_option linter.unusedVariables false
set_option linter.unusedSimpArgs false
/- El of chapter 02, in a namespace of its own. -/
namespace Go.Proofs.YtcdplfjegopmdaaGreat.K
open Go.RowKit Go.Lib
/-- A row of bools I, n of them. -/
def BoolsAt (w : World) (A : Option Addr) (n : Nat) (I : Nat → Bool) : Prop :=
  ∀ k, k < n → ∃ b o, A = some ⟨b, o, none⟩ ∧ b < w.heap.size ∧ w.cell? ⟨b, o + k, none⟩ = some (.bool (I k))
theorem BoolsAt.below {w w' : World} {A : Option Addr} {n : Nat} {I : Nat → Bool} (h : BoolsAt w A n I) (hb : Below w.heap.size w w') : BoolsAt w' A n I := fun k hk => by
  obtain ⟨b, o, e, h2, h3⟩ := h k hk
  exact ⟨b, o, e, Nat.lt_of_lt_of_le h2 hb.size, (hb.cell (p := ⟨b, o + k, none⟩) h2).trans h3⟩
theorem BoolsAt.cut {w : World} {b o j n m : Nat} {I : Nat → Bool} (h : BoolsAt w (some ⟨b, o, none⟩) n I) (hm : j + m ≤ n) : BoolsAt w (some ⟨b, o + j, none⟩) m (fun k => I (j + k)) := fun k hk => by
  obtain ⟨b', o', e, h2, h3⟩ := h (j + k) (by omega)
  injection e with e
  injection e with e1 e2
  subst e1; subst e2
  exact ⟨_, _, rfl, h2, by rw [Nat.add_assoc]; exact h3⟩
theorem BoolsAt.fewer {w : World} {A : Option Addr} {n m : Nat} {I : Nat → Bool} (h : BoolsAt w A n I) (hm : m ≤ n) : BoolsAt w A m I := fun k hk => h k (Nat.lt_of_lt_of_le hk hm)

set_option maxHeartbeats 1000000 in
theorem cancelled_one (ib io ic sb so sc : Nat) (I : Nat → Bool) (S : Nat → Int) (w : World) (hI : BoolsAt w (some ⟨ib, io, none⟩) 1 I) (hS : IntsAt w 0 (some ⟨sb, so, none⟩) 1 S) :
    Calls Tryz.prog 110 #[.slice (some ⟨ib, io, none⟩) 1 ic, .slice (some ⟨sb, so, none⟩) 1 sc] w fun e w' => ∃ v, e = .returned v ∧ GaveInts w 1 (cancelF 0 I S) v w' := by
  obtain ⟨b, o, e, -, hs⟩ := hI 0 (by omega)
  injection e with e; injection e with e1 e2; subst e1; subst e2
  obtain ⟨b', o', e, -, -, ht⟩ := hS 0 (by omega)
  injection e with e; injection e with e1 e2; subst e1; subst e2
  rw [Nat.add_zero] at hs ht
  clear hI hS
  cases hi : I 0
  · have EQ := hide (show ∀ j, cancelF 0 I S j = 0 from fun j => by unfold cancelF; rw [if_neg (by rw [hi]; simp)])
    rw [hi] at hs
    clear hi
    go_enter Tryz.func110, Tryz.ntmps110
    go_wp2_with fail
    go_ret
    refine ⟨_, rfl, _, _, rfl, Nat.le_refl _, (IntsAt.one w w.heap.size 0 _ (Nat.le_refl _)).congr fun j _ => (EQ.out j).symm, by (repeat (first | (with_reducible exact Below.refl _ _) | (with_reducible refine Go.below_drewN ?_ _) | (with_reducible refine Below.drew ?_) | (with_reducible refine Below.alloc ?_ (by first | exact Nat.le_refl _ | (simp; done) | (simp; omega) | omega) _) | (with_reducible refine Below.setCell ?_ (by first | exact Nat.le_refl _ | (simp; done) | (simp; omega) | omega) _)))⟩
  · by_cases hn : S 0 < 0
    · have EQ := hide (show ∀ j, cancelF 0 I S j = 1 from fun j => by unfold cancelF; rw [if_pos ⟨hi, hn⟩])
      rw [hi] at hs
      have hd : decide (S 0 < 0) = true := by simpa using hn
      clear hi
      go_enter Tryz.func110, Tryz.ntmps110
      go_wp2_with fail
      go_ret
      refine ⟨_, rfl, _, _, rfl, Nat.le_refl _, (IntsAt.one w w.heap.size 1 _ (Nat.le_refl _)).congr fun j _ => (EQ.out j).symm, by (repeat (first | (with_reducible exact Below.refl _ _) | (with_reducible refine Go.below_drewN ?_ _) | (with_reducible refine Below.drew ?_) | (with_reducible refine Below.alloc ?_ (by first | exact Nat.le_refl _ | (simp; done) | (simp; omega) | omega) _) | (with_reducible refine Below.setCell ?_ (by first | exact Nat.le_refl _ | (simp; done) | (simp; omega) | omega) _)))⟩
    · have EQ := hide (show ∀ j, cancelF 0 I S j = 0 from fun j => by unfold cancelF; rw [if_neg (fun h => hn h.2)])
      rw [hi] at hs
      have hd : decide (S 0 < 0) = false := by simpa using hn
      clear hi hn
      go_enter Tryz.func110, Tryz.ntmps110
      go_wp2_with fail
      go_ret
      refine ⟨_, rfl, _, _, rfl, Nat.le_refl _, (IntsAt.one w w.heap.size 0 _ (Nat.le_refl _)).congr fun j _ => (EQ.out j).symm, by (repeat (first | (with_reducible exact Below.refl _ _) | (with_reducible refine Go.below_drewN ?_ _) | (with_reducible refine Below.drew ?_) | (with_reducible refine Below.alloc ?_ (by first | exact Nat.le_refl _ | (simp; done) | (simp; omega) | omega) _) | (with_reducible refine Below.setCell ?_ (by first | exact Nat.le_refl _ | (simp; done) | (simp; omega) | omega) _)))⟩
end Go.Proofs.YtcdplfjegopmdaaGreat.K
/- Em of chapter 02, in a namespace of its own. -/
namespace Go.Proofs.YtcdplfjegopmdaaGreat.K
open Go.RowKit Go.Lib
/-- The contract of cancelled at n soft bits of size M at most. -/
def CancelSaid (k : Nat) : Prop := ∀ (n ib io ic sb so sc : Nat) (M : Int) (I : Nat → Bool) (S : Nat → Int) (w : World), n = 2 ^ k → n ≤ ic → n ≤ sc → ic ≤ 1000000 → sc ≤ 9223372036854775807 → M * 2 ^ k ≤ 1000000000000 → (∀ j, j < n → -M ≤ S j ∧ S j ≤ M) →
  BoolsAt w (some ⟨ib, io, none⟩) n I → IntsAt w 0 (some ⟨sb, so, none⟩) n S →
  Calls Tryz.prog 110 #[.slice (some ⟨ib, io, none⟩) n ic, .slice (some ⟨sb, so, none⟩) n sc] w fun e w' => ∃ v, e = .returned v ∧ GaveInts w n (cancelF k I S) v w'

theorem cancelF_succ (k : Nat) (I : Nat → Bool) (S : Nat → Int) (N : Nat) (hN : N = 2 ^ k) (x : Nat) : cancelF (k + 1) I S x = if x < N then cancelF k I (fun i => lesserI (S i) (S (N + i))) x
    else cancelF k (fun i => I (N + i)) (fun i => farF (wordF N (cancelF k I (fun i => lesserI (S i) (S (N + i)))) i) (S i) (S (N + i))) (x - N) := by
  subst hN
  rfl
theorem farF_le {v a b M : Int} (ha : -M ≤ a ∧ a ≤ M) (hb : -M ≤ b ∧ b ≤ M) : -(2 * M) ≤ farF v a b ∧ farF v a b ≤ 2 * M := by
  unfold farF; split <;> omega

set_option maxHeartbeats 8000000 in
set_option maxRecDepth 100000 in
theorem cancelled_step (k : Nat) (hk : k ≤ 8) (ih : CancelSaid k) : CancelSaid (k + 1) := by
  intro n ib io ic sb so sc M I S w hn hic hsc hic9 hsc9 hM hS9 hI hS
  obtain ⟨N, hN⟩ : ∃ N, N = 2 ^ k := ⟨_, rfl⟩
  have hnN : n = N + N := by rw [hn, Nat.pow_succ, ← hN]; omega
  have hN1 : 1 ≤ N := by rw [hN]; exact Nat.two_pow_pos k
  have hN9 : N ≤ 256 := by rw [hN]; exact Nat.pow_le_pow_right (by decide) hk
  have IH := hide ih
  have HN := hide hN
  have hdiv : (n : Int) / 2 = (N : Int) := by omega
  have hne1 : ((n : Int) == 1) = false := by simp; omega
  have HnN := hide hnN
  have hsub : n - N = N := by omega
  have hlt1 : N < n := by omega
  have hc1 : N < sc := by omega
  have hc2 : N < ic := by omega
  clear hn ih hN
  obtain ⟨i0, hi, hz0, hz1, hz2⟩ := info_parts intInfo
  have hmk := fun W => run_make_row (P := Tryz.prog) 24 3 i0 (.int .i64 0) Tryz.underlying24 hi hz0 hz1 rfl .i64 .i64 N (by rw [hz2]; omega) (by omega) W
  have HI := hide hI
  have HS := hide hS
  have HS9 := hide hS9
  have HM := hide hM
  clear hI hS hS9 hM hi hz0 hz1 hz2 hnN
  go_enter Tryz.func110, Tryz.ntmps110
  go_wp2_with fail
  go_quiet (fail)
  go_wp2_with fail
  clear hmk
  have hM0 : 0 ≤ M := by have := HS9.out 0 (by omega); omega
  have hM9 : M ≤ 1000000000000 := by
    have h := HM.out
    have h1 : 1 ≤ (2 : Int) ^ (k + 1) := by
      have : ((2 ^ (k + 1) : Nat) : Int) = (2 : Int) ^ (k + 1) := by simp
      have := Nat.two_pow_pos (k + 1)
      omega
    have := Int.mul_le_mul_of_nonneg_left h1 hM0
    omega
  go_loopw [40] (fun i wr => ∃ j : Nat, j ≤ N ∧ i = .int .i64 j ∧ wr.rowIs w.heap.size 3 N (fun x => .int .i64 (if x < j then lesserI (S x) (S (N + x)) else 0)) ∧ Below w.heap.size w wr) (fun i _ => N - (Go.RowKit.intOf i).toNat)
  case atStart =>
    refine ⟨0, Nat.zero_le _, rfl, ?_, by (repeat (first | (with_reducible exact Below.refl _ _) | (with_reducible refine Go.below_drewN ?_ _) | (with_reducible refine Below.drew ?_) | (with_reducible refine Below.alloc ?_ (by first | exact Nat.le_refl _ | (simp; done) | (simp; omega) | omega) _) | (with_reducible refine Below.setCell ?_ (by first | exact Nat.le_refl _ | (simp; done) | (simp; omega) | omega) _)))⟩
    have h := World.rowIs_made (w.drewN nq) (.int .i64 0) N 3
    exact h.congr (fun _ _ => by simp)
  case round =>
    obtain ⟨j, hj, rfl, hR, hB⟩ := hrel
    by_cases hlt : j < N
    · have hltz : (j : Int) < (N : Int) := by omega
      have hS1 := HS.out.below hB
      have hS2 := IntsAt.cut (j := N) (m := N) hS1 (by have := HnN.out; omega)
      obtain ⟨b1, o1, e1, -, hb1, hx1⟩ := hS1 j (by have := HnN.out; omega)
      injection e1 with e1; injection e1 with e1 e2; subst e1; subst e2
      obtain ⟨b2, o2, e1, -, hb2, hx2⟩ := hS2 j hlt
      injection e1 with e1; injection e1 with e1 e2; subst e1; subst e2
      have hc := hR.cell hlt
      have hf := hR.frozen j
      have hl1 := HS9.out j (by have := HnN.out; omega)
      have hl2 := HS9.out (N + j) (by have := HnN.out; omega)
      have HLL := hide (fun W => lesser_any (S j) (S (N + j)) W (by omega) (by omega))
      clear hl1 hl2 hS1 hS2
      go_wp2_with fail
      go_still_tail 12, (by kernel_rfl)
      repeat (first | still_step | still_call ((HLL.out _).mono fun _ _ h => ⟨h.1, h.2.symm⟩))
      try refine wpStill_nil ?_
      go_wp2_with fail
      go_roundw
      case rel =>
        exact ⟨j + 1, by omega, by go_num, (hR.drew.set j _).congr (fun x _ => by
          by_cases e : x = j
          · subst e
            rw [if_pos rfl, if_pos (Nat.lt_succ_self _)]
          · rw [if_neg e]
            by_cases e2 : x < j
            · rw [if_pos e2, if_pos (by omega)]
            · rw [if_neg e2, if_neg (by omega)]), (hB.drew).setCell (by exact Nat.le_refl _) _⟩
      case measure => simp [Go.RowKit.intOf]; omega
    · obtain rfl : j = N := by omega
      obtain ⟨wo, rfl⟩ : ∃ wo : World, wo = wr := ⟨_, rfl⟩
      have hBs := hB.size
      have hgl := hR.lt
      have hR1 := hR.congr (g := fun x => .int .i64 (lesserI (S x) (S (j + x)))) (fun x hx => by rw [if_pos hx])
      have h2k : M * 2 ^ k ≤ 1000000000000 := by
        have h := HM.out
        have e : M * 2 ^ (k + 1) = 2 * (M * 2 ^ k) := by rw [Int.pow_succ, ← Int.mul_assoc]; omega
        have h0 : 0 ≤ M * 2 ^ k := Int.mul_nonneg hM0 (Int.le_of_lt (Int.pow_pos (by decide)))
        omega
      go_wp2_with fail
      refine (IH.out j ib io ic w.heap.size 0 j M I (fun i => lesserI (S i) (S (j + i))) wo HN.out (by omega) (Nat.le_refl _) hic9 (by omega) h2k (fun x hx => lesserI_le (HS9.out x (by have := HnN.out; omega)) (HS9.out (j + x) (by have := HnN.out; omega))) ((HI.out.below hB).fewer (by omega)) (IntsAt.of_row hR1 (Nat.zero_le _))).mono ?_
      rintro e w1 ⟨v1, rfl, A1, c1, rfl, hc1', hI1, hb1⟩
      go_wp2_with fail
      refine (wordOf_any A1 j c1 _ _ (by omega) (hI1.weak (Nat.zero_le _)) (fun x _ => cancelF_bit k _ _ x)).mono ?_
      rintro e w2 ⟨v2, rfl, A2, c2, rfl, hc2', hI2, hb2⟩
      go_wp2_with fail
      have hB2 : Below w.heap.size w w2 := (hB.trans (hb1.mono hBs)).trans (hb2.mono (Nat.le_trans hBs hb1.size))
      have hR2 := rowIs_below (rowIs_below hR1 hb1) hb2
      have hI1' := (hI1.below hb2).weak (show w.heap.size + 1 ≤ wo.heap.size from hgl)
      have hI2' := hI2.weak (show w.heap.size + 1 ≤ w1.heap.size from Nat.le_trans hgl hb1.size)
      have EF := hide (cancelF_succ k I S j HN.out)
      have hVb : ∀ x, IsBit (wordF j (cancelF k I fun i => lesserI (S i) (S (j + i))) x) := wordF_bit _ _
      generalize cancelF k I (fun i => lesserI (S i) (S (j + i))) = U at *
      generalize wordF j U = V at *
      have HVB := hide hVb
      clear hI1 hI2 hb1 hb2 hR hR1 hVb hBs
      go_loopw [64] (fun i wx => ∃ m : Nat, m ≤ j ∧ i = .int .i64 m ∧ wx.rowIs w.heap.size 3 j (fun x => .int .i64 (if x < m then farF (V x) (S x) (S (j + x)) else lesserI (S x) (S (j + x)))) ∧
          IntsAt wx (w.heap.size + 1) A1 j U ∧ IntsAt wx (w.heap.size + 1) A2 j V ∧ Below w.heap.size w wx) (fun i _ => j - (Go.RowKit.intOf i).toNat)
      case atStart => exact ⟨0, Nat.zero_le _, rfl, hR2.congr (fun x _ => by rw [if_neg (Nat.not_lt_zero _)]), hI1', hI2', hB2⟩
      case round =>
        clear hI1' hI2' hR2 hB2
        obtain ⟨m, hm, rfl, hR, hI1, hI2, hBm⟩ := hrel
        by_cases hlm : m < j
        · have hltm : (m : Int) < (j : Int) := by omega
          have hS1 := HS.out.below hBm
          have hS2 := IntsAt.cut (j := j) (m := j) hS1 (by have := HnN.out; omega)
          obtain ⟨b1, o1, e1, -, hb1, hx1⟩ := hS1 m (by have := HnN.out; omega)
          injection e1 with e1; injection e1 with e1 e2; subst e1; subst e2
          obtain ⟨b2, o2, e1, -, hb2, hx2⟩ := hS2 m hlm
          injection e1 with e1; injection e1 with e1 e2; subst e1; subst e2
          have hI2c := hI2
          obtain ⟨b3, o3, rfl, hlo3, hb3, hx3⟩ := hI2 m hlm
          have hc := hR.cell hlm
          have hf := hR.frozen m
          obtain ⟨l1, l2⟩ := HS9.out m (by have := HnN.out; omega)
          obtain ⟨l3, l4⟩ := HS9.out (j + m) (by have := HnN.out; omega)
          have q1 : IntKind.i64.wrap (S (j + m) - S m) = S (j + m) - S m := IntWalk.i64_in _ (by omega)
          have q2 : IntKind.i64.wrap (S (j + m) + S m) = S (j + m) + S m := IntWalk.i64_in _ (by omega)
          by_cases hv : V m = 1
          · have HV := hide hv
            rw [hv] at hx3
            clear hS1 hS2 hv hI2 l1 l2 l3 l4
            go_wp2_with fail
            go_still_tail 12, (by kernel_rfl)
            repeat still_step
            try refine wpStill_nil ?_
            go_wp2_with fail
            go_roundw
            case rel =>
              exact ⟨m + 1, by omega, by go_num, (hR.drew.set m _).congr (fun x _ => by
                by_cases e : x = m
                · subst e
                  rw [if_pos rfl, if_pos (Nat.lt_succ_self _), HV.out]; rfl
                · rw [if_neg e]
                  by_cases e2 : x < m
                  · rw [if_pos e2, if_pos (by omega)]
                  · rw [if_neg e2, if_neg (by omega)]), hI1.drew.other (Nat.lt_succ_self _) _, hI2c.drew.other (Nat.lt_succ_self _) _, (hBm.drew).setCell (by exact Nat.le_refl _) _⟩
            case measure => simp [Go.RowKit.intOf]; omega
          · have hv' : (V m == 1) = false := by simpa using hv
            have HV := hide (show farF (V m) (S m) (S (j + m)) = S (j + m) + S m from if_neg hv)
            clear hS1 hS2 hv hI2 l1 l2 l3 l4
            go_wp2_with fail
            go_still_tail 12, (by kernel_rfl)
            repeat still_step
            try refine wpStill_nil ?_
            go_wp2_with fail
            go_roundw
            case rel =>
              exact ⟨m + 1, by omega, by go_num, (hR.drew.set m _).congr (fun x _ => by
                by_cases e : x = m
                · subst e
                  rw [if_pos rfl, if_pos (Nat.lt_succ_self _), HV.out]
                · rw [if_neg e]
                  by_cases e2 : x < m
                  · rw [if_pos e2, if_pos (by omega)]
                  · rw [if_neg e2, if_neg (by omega)]), hI1.drew.other (Nat.lt_succ_self _) _, hI2c.drew.other (Nat.lt_succ_self _) _, (hBm.drew).setCell (by exact Nat.le_refl _) _⟩
            case measure => simp [Go.RowKit.intOf]; omega
        · obtain rfl : m = j := by omega
          obtain ⟨wy, rfl⟩ : ∃ wy : World, wy = wr := ⟨_, rfl⟩
          have hBs := hBm.size
          have hgl := hR.lt
          have hR1 := hR.congr (g := fun x => .int .i64 (farF (V x) (S x) (S (m + x)))) (fun x hx => by rw [if_pos hx])
          go_wp2_with fail
          refine (IH.out m ib (io + m) (ic - m) w.heap.size 0 m (2 * M) (fun x => I (m + x)) (fun i => farF (V i) (S i) (S (m + i))) wy HN.out (by have := HnN.out; omega) (Nat.le_refl _) (by omega) (by omega)
            (by have h := HM.out; rw [Int.pow_succ, ← Int.mul_assoc] at h; rw [Int.mul_assoc]; omega)
            (fun x hx => farF_le (HS9.out x (by have := HnN.out; omega)) (HS9.out (m + x) (by have := HnN.out; omega))) ((HI.out.below hBm).cut (by have := HnN.out; omega)) (IntsAt.of_row hR1 (Nat.zero_le _))).mono ?_
          rintro e w3 ⟨v3, rfl, A3, c3, rfl, hc3', hI3, hb3⟩
          have hI1' := hI1.below hb3
          have hb3s := hb3.size
          go_wp2_with fail
          have bx : Box (w3.alloc (.cells #[.slice A1 m c1, .slice A3 m c3] 24)) w3.heap.size 24 #[.slice A1 m c1, .slice A3 m c3] := Box.made rfl
          refine (concat_any w3.heap.size 24 A1 A3 m m c1 c3 2 U (cancelF k (fun x => I (m + x)) (fun i => farF (V i) (S i) (S (m + i)))) _ (by omega) (by omega) bx ((hI1'.weak (Nat.zero_le _)).alloc _) ((hI3.weak (Nat.zero_le _)).alloc _)).mono ?_
          rintro e w4 ⟨v4, rfl, A4, c4, rfl, hc4', hI4, hb4⟩
          go_wp2_with fail
          go_ret
          have hB3 : Below w.heap.size w w3 := hBm.trans (hb3.mono hBs)
          have hB4 : Below w.heap.size w w4 := (hB3.alloc hB3.size _).trans (hb4.mono (by simp; omega))
          have hnn := HnN.out
          clear hdiv hsub hlt1 hne1
          refine ⟨.slice A4 (m + m) c4, rfl, A4, c4, by rw [hnn], by rw [hnn]; exact hc4', ?_, hB4⟩
          rw [hnn]
          exact (hI4.weak (by simp; omega)).congr fun x hx => (EF.out x).symm
theorem cancelled_zero : CancelSaid 0 := by
  intro n ib io ic sb so sc M I S w hn _ _ _ _ _ _ hI hS
  obtain rfl : n = 1 := by rw [hn]
  exact cancelled_one ib io ic sb so sc I S w hI hS
theorem cancelled_any : ∀ k, k ≤ 9 → CancelSaid k
  | 0, _ => cancelled_zero
  | k + 1, h => cancelled_step k (by omega) (cancelled_any k (by omega))
end Go.Proofs.YtcdplfjegopmdaaGreat.K
/- En of chapter 02, in a namespace of its own. -/
namespace Go.Proofs.YtcdplfjegopmdaaGreat.K
open Go.RowKit Go.Lib
theorem boolInfo : (Tryz.prog.info? 4).map (fun i => (i.zero, i.size, i.bytes)) = some (some (.bool false), 1, 1) := by kernel_rfl
/-- Is x one of the first k positions. -/
def isPos (F : Nat → Int) (x : Nat) : Nat → Bool
  | 0 => false
  | k + 1 => if F k = x then true else isPos F x k
set_option maxHeartbeats 2000000 in
theorem decoded_own (p : Nat) (A C : Option Addr) (n c N d : Nat) (F S : Nat → Int) (w : World) (hok : PolarOk p n F) (hn : n ≤ 1000) (hN : N = 2 ^ p) (hI : IntsAt w 0 A n F) (hS : IntsAt w 0 C N S) (hNd : N ≤ d) (hd : d ≤ 9223372036854775807) (M : Int) (hM : M * 2 ^ p ≤ 1000000000000) (hS9 : ∀ j, j < N → -M ≤ S j ∧ S j ≤ M) :
    Calls Tryz.prog 77 #[.agg #[.int .i64 (p : Int), .slice A n c], .slice C N d] w fun e w' => ∃ g, e = .returned (.slice (some ⟨g, 0, none⟩) n n) ∧ IntsAt w' w.heap.size (some ⟨g, 0, none⟩) n (fun k => cancelF p (fun x => isPos F x n) S (F k).toNat) ∧ Below w.heap.size w w' := by
  obtain ⟨h1, h2, h3, h4⟩ := hok
  have hN1 : 1 ≤ N := by rw [hN]; exact Nat.two_pow_pos p
  have hN9 : N ≤ 64 := by rw [hN]; exact Nat.pow_le_pow_right (by decide) h1
  have h3' : ∀ k, k < n → 0 ≤ F k ∧ F k < N := fun k hk => by
    have := h3 k hk
    have e : ((2 ^ p : Nat) : Int) = (2 : Int) ^ p := by simp
    rw [hN]; omega
  obtain ⟨i0, hi, hz0, hz1, hz2⟩ := info_parts intInfo
  obtain ⟨i1, hj, hy0, hy1, hy2⟩ := info_parts boolInfo
  have hmk := fun W => run_make_row (P := Tryz.prog) 24 3 i0 (.int .i64 0) Tryz.underlying24 hi hz0 hz1 rfl .i64 .i64 n (by rw [hz2]; omega) (by omega) W
  have hmb := fun W => run_make_row (P := Tryz.prog) 131 4 i1 (.bool false) Tryz.underlying131 hj hy0 hy1 rfl .i64 .i64 N (by rw [hy2]; omega) (by omega) W
  obtain ⟨sb, so, rfl⟩ : ∃ sb so, C = some ⟨sb, so, none⟩ := by
    obtain ⟨b, o, e, -⟩ := hS 0 (by omega)
    exact ⟨b, o, e⟩
  have HI := hide hI
  have HS := hide hS
  have H3 := hide h3'
  have HN := hide hN
  have HM := hide hM
  have HS9 := hide hS9
  have HMK := hide hmk
  clear hI hS h3 h3' h4 hi hz0 hz1 hz2 hN hM hS9 hj hy0 hy1 hy2 hmk
  go_enter Tryz.func77, Tryz.ntmps77
  go_wp2_with fail
  clear hmb
  go_loopw [18] (fun i wr => ∃ k : Nat, k ≤ n ∧ i = .int .i64 k ∧ wr.rowIs (w.heap.size + 1) 4 N (fun x => .bool (isPos F x k)) ∧ Box wr w.heap.size 26 #[.int .i64 (p : Int), .slice A n c] ∧ Below w.heap.size w wr) (fun i _ => n - (Go.RowKit.intOf i).toNat)
  case atStart =>
    refine ⟨0, Nat.zero_le _, rfl, ?_, (Box.made rfl).alloc _, by (repeat (first | (with_reducible exact Below.refl _ _) | (with_reducible refine Go.below_drewN ?_ _) | (with_reducible refine Below.drew ?_) | (with_reducible refine Below.alloc ?_ (by first | exact Nat.le_refl _ | (simp; done) | (simp; omega) | omega) _) | (with_reducible refine Below.setCell ?_ (by first | exact Nat.le_refl _ | (simp; done) | (simp; omega) | omega) _)))⟩
    have := World.rowIs_made (w.alloc (.cells #[.int .i64 (p : Int), .slice A n c] 26)) (.bool false) N 4
    simp only [World.size_alloc] at this
    exact this.congr (fun _ _ => rfl)
  case round =>
    obtain ⟨k, hk, rfl, hR, bx, hBl⟩ := hrel
    by_cases hlt : k < n
    · have hltz : (k : Int) < (n : Int) := by omega
      have hI := HI.out.below hBl
      obtain ⟨b, o, rfl, -, hb, hcell⟩ := hI k hlt
      obtain ⟨f0, f1⟩ := H3.out k hlt
      obtain ⟨f, hf⟩ := Int.eq_ofNat_of_zero_le f0
      have HF := hide hf
      rw [hf] at hcell f0 f1
      clear hf
      have hc := hR.cell (i := f) (by omega)
      have hfz := hR.frozen f
      go_wp2_with fail
      go_roundw
      case rel =>
        exact ⟨k + 1, by omega, by go_num, (hR.set f _).congr (fun x _ => by
          show (if x = f then Value.bool true else Value.bool (isPos F x k)) = Value.bool (if F k = x then true else isPos F x k)
          by_cases e : x = f
          · rw [if_pos e, if_pos (by rw [HF.out, e])]
          · rw [if_neg e, if_neg (by rw [HF.out]; omega)]), bx.other (by simp) _, hBl.setCell (by simp) _⟩
      case measure => simp [Go.RowKit.intOf]; omega
    · obtain rfl : k = n := by omega
      obtain ⟨wo, rfl⟩ : ∃ wo : World, wo = wr := ⟨_, rfl⟩
      have x1 := bx.at_ 1
      simp only [List.getElem?_toArray] at x1
      have hBs := hBl.size
      have hlt0 := bx.lt
      go_wp2_with fail
      refine (cancelled_any p (by omega) N (w.heap.size + 1) 0 N sb so d M (fun x => isPos F x k) S wo HN.out (Nat.le_refl _) hNd (by omega) (by omega) HM.out HS9.out (fun x hx => ⟨_, _, rfl, hR.lt, by rw [Nat.zero_add]; exact hR.cell hx⟩) (HS.out.below hBl)).mono ?_
      rintro e w1 ⟨v, rfl, A', c', rfl, hc', hI', hb'⟩
      have bx1 := bx.below hb'
      have y1 := bx1.at_ 1
      simp only [List.getElem?_toArray] at y1
      have hB1 : Below w.heap.size w w1 := hBl.trans (hb'.mono hBl.size)
      have hb1s := hB1.size
      have hlt1 := bx1.lt
      have hmk := HMK.out
      go_wp2_with fail
      clear hmk x1 y1
      have HI' := hide hI'
      have HI1 := hide (HI.out.below hB1)
      clear hI'
      go_loopw [36] (fun i wx => ∃ j : Nat, j ≤ k ∧ i = .int .i64 j ∧ wx.rowIs w1.heap.size 3 k (fun x => .int .i64 (if x < j then cancelF p (fun x => isPos F x k) S (F x).toNat else 0)) ∧ Below w1.heap.size w1 wx) (fun i _ => k - (Go.RowKit.intOf i).toNat)
      case atStart =>
        exact ⟨0, Nat.zero_le _, rfl, (World.rowIs_made w1 (.int .i64 0) k 3).congr (fun _ _ => by simp), (Below.refl _ _).alloc (Nat.le_refl _) _⟩
      case round =>
        obtain ⟨j, hj, rfl, hR2, hB2⟩ := hrel
        by_cases hlj : j < k
        · have hltj : (j : Int) < (k : Int) := by omega
          obtain ⟨f0, f1⟩ := H3.out j hlj
          obtain ⟨f, hf⟩ := Int.eq_ofNat_of_zero_le f0
          have hI2 := HI1.out.below hB2
          have hJ2 := HI'.out.below hB2
          obtain ⟨b, o, rfl, -, hb, hcell⟩ := hI2 j hlj
          obtain ⟨b', o', rfl, -, hb2, hcell2⟩ := hJ2 f (by omega)
          have HF := hide hf
          rw [hf] at hcell f0 f1
          clear hf hI2 hJ2
          have hc := hR2.cell hlj
          have hfz := hR2.frozen j
          go_wp2_with fail
          go_roundw
          case rel =>
            exact ⟨j + 1, by omega, by go_num, (hR2.set j _).congr (fun x _ => by
              by_cases e : x = j
              · subst e
                rw [if_pos rfl, if_pos (Nat.lt_succ_self _), HF.out]; rfl
              · rw [if_neg e]
                by_cases e2 : x < j
                · rw [if_pos e2, if_pos (by omega)]
                · rw [if_neg e2, if_neg (by omega)]), hB2.setCell (by exact Nat.le_refl _) _⟩
          case measure => simp [Go.RowKit.intOf]; omega
        · obtain rfl : j = k := by omega
          go_wp2_with fail
          go_ret
          exact ⟨_, rfl, IntsAt.of_row (hR2.congr (fun x hx => by rw [if_pos hx])) hb1s, hB1.trans (hB2.mono hb1s)⟩
theorem decoded_pre (p : Nat) (A C : Option Addr) (n c N d : Nat) (F S : Nat → Int) (w : World) (hok : PolarOk p n F) (hn : n ≤ 1000) (hN : N = 2 ^ p) (hI : IntsAt w 0 A n F) (hS : IntsAt w 0 C N S) (hNd : N ≤ d) (hd : d ≤ 9223372036854775807) (M : Int) (hM : M * 2 ^ p ≤ 1000000000000) (hS9 : ∀ j, j < N → -M ≤ S j ∧ S j ≤ M) :
    Calls Tryz.prog 77 #[.agg #[.int .i64 (p : Int), .slice A n c], .slice C N d] w fun e w' => ∃ v, e = .returned v ∧ GaveInts w n (fun k => cancelF p (fun x => isPos F x n) S (F k).toNat) v w' :=
  (decoded_own p A C n c N d F S w hok hn hN hI hS hNd hd M hM hS9).mono fun _ _ ⟨_, h1, h2, h3⟩ => ⟨_, h1, _, _, rfl, Nat.le_refl _, h2, h3⟩
end Go.Proofs.YtcdplfjegopmdaaGreat.K
/- Fa of chapter 02, in a namespace of its own. -/
namespace Go.Proofs.YtcdplfjegopmdaaGreat.K
open Go.RowKit
/-- The numbers of a list, 0 behind it. -/
def getL (l : List Int) (k : Nat) : Int := l.getD k 0
theorem _root_.Go.Proofs.YtcdplfjegopmdaaGreat.IntsAt.of_box {w : World} {lo g : Nat} {t : TypeId} (l : List Int) (n : Nat) (hn : n = l.length) (h : Box w g t (l.map (Value.int .i64)).toArray) (hl : lo ≤ g) : IntsAt w lo (some ⟨g, 0, none⟩) n (getL l) := fun k hk => by
  subst hn
  refine ⟨g, 0, rfl, hl, h.lt, ?_⟩
  rw [Nat.zero_add, h.at_ k, List.getElem?_toArray, List.getElem?_map, List.getElem?_eq_getElem hk]
  simp [getL, hk]
theorem firstE_none : firstE [] = 0 := rfl
theorem firstE_cons (e : Int) (r : List Int) : firstE (e :: r) = if e = 0 then firstE r else e := rfl
theorem bitsErr_ok {n : Nat} {F : Nat → Int} (h0 : 0 < n) (h1 : n ≤ 200) (hb : ∀ k, k < n → IsBit (F k)) : firstE [firstE [unI (decide (0 < n)) 10, unI (decide (n ≤ 200)) 8], unI (bitsB n F) 15] = 0 := by
  have e1 : decide (0 < n) = true := by simpa using h0
  have e2 : decide (n ≤ 200) = true := by simpa using h1
  have e3 := bitsB_iff.2 hb
  rw [e1, e2, e3]; rfl
set_option maxHeartbeats 1000000 in
theorem Remainder_ok (d t : Nat) (A : Option Addr) (n c : Nat) (F : Nat → Int) (w : World) (h0 : 1 ≤ d) (h1 : d ≤ 16) (t0 : t % 2 = 1) (t1 : t < 2 ^ d) (hn0 : 0 < n) (hn : n ≤ 200) (hI : IntsAt w 0 A n F) (hb : ∀ k, k < n → IsBit (F k)) :
    Calls Tryz.prog 40 #[.agg #[.int .i64 (d : Int), .int .i64 (t : Int)], .slice A n c] w fun e w' => ∃ v, e = .returned (.tuple #[v, .int .i64 0]) ∧ GaveInts w d (remB d t n F) v w' := by
  have HI := hide hI
  have HB := hide hb
  have HP := hide (show polyErrI (d : Int) (t : Int) = 0 from by
    have : ((2 ^ d : Nat) : Int) = (2 : Int) ^ d := by simp
    unfold polyErrI
    rw [if_pos (by omega), Int.toNat_natCast, if_pos (by omega), if_neg (by omega)])
  have HE := hide (bitsErr_ok hn0 hn hb)
  clear hI hb t0
  go_enter Tryz.func40, Tryz.ntmps40
  go_wp2_with fail
  refine (checkPoly_any _ _ _).mono ?_
  rintro e w1 ⟨rfl, hb1⟩
  rw [HP.out]
  have hs1 := hb1.size
  have hI1 := HI.out.below (below_of_alloc hb1)
  go_wp2_with fail
  refine (bitsError_any A n c F _ (by omega) hI1).mono ?_
  rintro e w2 ⟨rfl, hb2⟩
  rw [HE.out]
  go_wp2_with fail
  refine (firstError_laid [0, 0] 2 _ _ rfl (by decide)).mono ?_
  rintro e w3 ⟨rfl, hw3⟩
  rw [show firstE [0, 0] = (0 : Int) from rfl]
  have bx : Box w3 w.heap.size 23 #[.int .i64 (d : Int), .int .i64 (t : Int)] := by rw [← hw3]; exact (((Box.made rfl).below hb1).below hb2).alloc _
  have hB3 : Below w.heap.size w w3 := by
    rw [← hw3]
    have h1 := below_of_alloc hb1
    exact (h1.trans (hb2.mono h1.size)).alloc (Nat.le_trans h1.size hb2.size) _
  clear hw3 hb1 hb2 hs1 hI1
  have x0 : w3.cell? ⟨w.heap.size, 0, none⟩ = some (.int .i64 (d : Int)) := bx.at_ 0
  have x1 : w3.cell? ⟨w.heap.size, 1, none⟩ = some (.int .i64 (t : Int)) := bx.at_ 1
  have hl3 := bx.lt
  go_wp2_with fail
  refine (remainder_any d t A n c F _ h0 h1 t1 (by omega) (HI.out.below hB3) HB.out).mono ?_
  rintro e w4 ⟨v, rfl, A4, c4, rfl, hc4, hI4, hb4⟩
  go_wp2_with fail
  go_ret2
  exact ⟨_, rfl, A4, c4, rfl, hc4, hI4.weak hB3.size, hB3.trans (hb4.mono hB3.size)⟩

end Go.Proofs.YtcdplfjegopmdaaGreat.K
/- code: placesOf and its iterator. -/
namespace Go.Proofs.YtcdplfjegopmdaaGreat
open Go.RowKit Go.Shelf
attribute [local go_sem] Oper.semAt_some

/-- The numbers from 0 on. -/
def seqTo (C : Nat) : Nat → List (Fin C)
  | 0 => []
  | j + 1 => if h : j < C then seqTo C j ++ [⟨j, h⟩] else seqTo C j
theorem seqTo_succ {C j : Nat} (h : j < C) : seqTo C (j + 1) = seqTo C j ++ [⟨j, h⟩] := by rw [seqTo, dif_pos h]
theorem seqTo_len (C : Nat) : ∀ j, (seqTo C j).length ≤ j
  | 0 => Nat.le_refl _
  | j + 1 => by
    have := seqTo_len C j
    rw [seqTo]
    split
    · rw [List.length_append]; simp; omega
    · omega
theorem seqTo_mem {C : Nat} : ∀ {j : Nat} (x : Fin C), x.1 < j → x ∈ seqTo C j
  | 0, _, h => absurd h (Nat.not_lt_zero _)
  | j + 1, x, h => by
    have hx := x.2
    by_cases hj : j < C
    · rw [seqTo_succ hj, List.mem_append]
      rcases Nat.lt_or_ge x.1 j with h1 | h1
      · exact .inl (seqTo_mem x h1)
      · exact .inr (List.mem_singleton.2 (Fin.ext (by show x.1 = j; omega)))
    · rw [seqTo, dif_neg hj]
      exact seqTo_mem x (by omega)
theorem grown_of_below {w w' : World} (h : Below w.heap.size w w') : w.grownBy w' none := ⟨h.os, h.tape, h.output, h.size, fun k hk _ => h.block k hk⟩

/-- Three blocks stay as they are. -/
def K3 (a : Nat) (A B : World) : Prop := A.heap.size ≤ B.heap.size ∧ B.heap[a]? = A.heap[a]? ∧ B.heap[a + 1]? = A.heap[a + 1]? ∧ B.heap[a + 1 + 1]? = A.heap[a + 1 + 1]?
theorem K3.refl (a : Nat) (A : World) : K3 a A A := ⟨Nat.le_refl _, rfl, rfl, rfl⟩
theorem K3.trans {a : Nat} {A B C : World} (h : K3 a A B) (k : K3 a B C) : K3 a A C := ⟨Nat.le_trans h.1 k.1, k.2.1.trans h.2.1, k.2.2.1.trans h.2.2.1, k.2.2.2.trans h.2.2.2⟩
theorem K3.of_below {a : Nat} {A B : World} (h : Below A.heap.size A B) (hk : a + 1 + 1 < A.heap.size) : K3 a A B := ⟨h.size, h.block _ (by omega), h.block _ (by omega), h.block _ hk⟩
theorem K3.of_only {a b : Nat} {A B : World} (h : Only b A B) (hk : a + 1 + 1 < A.heap.size) (h1 : b < a ∨ a + 1 + 1 < b) : K3 a A B :=
  ⟨h.size, h.block _ (by omega) (fun e => by injection e; omega), h.block _ (by omega) (fun e => by injection e; omega), h.block _ hk (fun e => by injection e; omega)⟩
theorem K3.put {a l : Nat} {W : World} {o' : Obj} (h1 : l < a ∨ a + 1 + 1 < l) : K3 a W (W.putObj l o') :=
  ⟨by simp, World.putObj_heap_other (by omega), World.putObj_heap_other (by omega), World.putObj_heap_other (by omega)⟩

/-- What the iterator hands to a round. -/
def encP (v n C : Nat) (x : Fin C) : Array Value := #[.int .i64 ((x.1 : Nat) : Int), .int .i64 ((placeN v n x.1 : Nat) : Int)]

end Go.Proofs.YtcdplfjegopmdaaGreat
/- Eo of chapter 02, in a namespace of its own. -/
namespace Go.Proofs.YtcdplfjegopmdaaGreat.K
open Go.RowKit Go.Shelf
attribute [local go_sem] Oper.semAt_some
set_option maxHeartbeats 400000 in
theorem placesOf_any (v n c : Int) (w : World) :
    Calls Tryz.prog 91 #[.int .i64 v, .int .i64 n, .int .i64 c] w fun e w' =>
      e = .returned (.func (.func 116) #[] #[.pointer (some ⟨w.heap.size, 0, none⟩), .pointer (some ⟨w.heap.size + 1, 0, none⟩), .pointer (some ⟨w.heap.size + 1 + 1, 0, none⟩)]) ∧
        ((w.alloc (.cells #[.int .i64 v] 3)).alloc (.cells #[.int .i64 n] 3)).alloc (.cells #[.int .i64 c] 3) = w' := by
  go_enter Tryz.func91, Tryz.ntmps91
  go_wp2
  go_ret
  exact ⟨rfl, rfl⟩

set_option maxHeartbeats 2000000 in
set_option maxRecDepth 100000 in
theorem places_stops (g : Nat) (a v n C : Nat) (w : World)
    (bv : Box w a 3 #[.int .i64 (v : Int)]) (bn : Box w (a + 1) 3 #[.int .i64 (n : Int)]) (bc : Box w (a + 1 + 1) 3 #[.int .i64 (C : Int)])
    (hv : v ≤ 3) (hn : 1 ≤ n) (hn9 : n ≤ 1000) (hC : C ≤ 1000) :
    SeqStopsK Fence.wide g Tryz.prog 116 #[.pointer (some ⟨a, 0, none⟩), .pointer (some ⟨a + 1, 0, none⟩), .pointer (some ⟨a + 1 + 1, 0, none⟩)] (encP v n C) (K3 a)
      (fun xs => xs = seqTo C C) (fun _ => True) C w := by
  intro l J Jx W hW hJ hJx hY h0
  have cv := bv.below hW
  have cn := bn.below hW
  have cc := bc.below hW
  clear bv bn bc hW
  have z0 := cv.at_ 0
  have z1 := cn.at_ 0
  have z2 := cc.at_ 0
  simp only [List.getElem?_toArray] at z0 z1 z2
  obtain ⟨m, hm⟩ : ∃ m, m = v * n := ⟨_, rfl⟩
  have hvn : m ≤ 3000 := by rw [hm]; exact Nat.le_trans (Nat.mul_le_mul hv hn9) (by decide)
  have hcm : (v : Int) * (n : Int) = (m : Int) := by rw [hm]; simp
  have HP0 := hide (show placeN v n 0 = m / 4 from by rw [hm]; exact placeN_zero (by omega) hn)
  have hn0 : ¬ (n : Int) = 0 := by omega
  clear hm
  refine callsIn_of_wp Tryz.func116 rfl trivial ?_ rfl
  simp only [Tryz.ntmps116, List.size_toArray, List.length_cons, List.length_nil, Nat.reduceAdd, Nat.reduceSub, Array.replicate_succ, Array.replicate_zero, List.push_toArray, List.append_toArray, List.nil_append, List.cons_append]
  gi_wp2_with fail
  clear hcm z0
  gi_loopw [5, 12] (fun p i wr => ∃ j : Nat, j ≤ C ∧ i = .int .i64 j ∧ p = .int .i64 (placeN v n j : Nat) ∧ J (seqTo C j) wr ∧ K3 a W wr) (fun _ i _ => C - (Go.RowKit.intOf i).toNat)
  case atStart => exact ⟨0, Nat.zero_le _, rfl, by rw [HP0.out]; go_num, h0, K3.refl _ _⟩
  case round =>
    obtain ⟨j, hj, rfl, rfl, hJs, hnx⟩ := hrel
    have dn : Box wr (a + 1) _ _ := hnx.2.2.1.trans cn
    have x1 := dn.at_ 0
    simp only [List.getElem?_toArray] at x1
    have hpl := placeN_lt (v := v) (k := j) (show 0 < n by omega)
    have HPS := hide (placeN_succ v n j)
    by_cases hlt : j < C
    · have hltz : (j : Int) < (C : Int) := by omega
      obtain ⟨fn', tmps, assign, body, hy, hR⟩ := hY (seqTo C j) ⟨j, hlt⟩ wr hJs (Nat.lt_of_le_of_lt (seqTo_len _ _) hlt)
      dsimp only [encP] at hy
      generalize placeN v n j = p at *
      gi_wp2_with fail
      refine ⟨fun h => by simp [Fence.wide] at h, hR.mono ?_⟩
      rintro e w3 (⟨rfl, hJ3, hk3⟩ | ⟨rfl, hJx3⟩)
      · have hn3 := hnx.trans hk3
        have d3 : Box w3 (a + 1) _ _ := hn3.2.2.1.trans cn
        have y1 := d3.at_ 0
        simp only [List.getElem?_toArray] at y1
        clear x1
        gi_wp2_with fail
        go_roundw
        case rel =>
          exact ⟨j + 1, by omega, by go_num, by rw [HPS.out]; go_num, by rw [seqTo_succ hlt]; exact hJ3, hn3⟩
        case measure => simp [Go.RowKit.intOf]; omega
      · gi_wp2_with fail
        refine bodyPost_ret (results_none rfl _ _ _) rfl ?_
        exact ⟨⟨_, rfl⟩, .inr ⟨_, trivial, hJx3⟩⟩
    · obtain rfl : j = C := by omega
      gi_wp2_with fail
      go_end0
      exact ⟨⟨_, rfl⟩, .inl ⟨_, rfl, hJs⟩⟩
end Go.Proofs.YtcdplfjegopmdaaGreat.K
/- Er of chapter 02, in a namespace of its own. -/
namespace Go.Proofs.YtcdplfjegopmdaaGreat.K
open Go.RowKit Go.Shelf
attribute [local go_sem] Oper.semAt_some
def hasP {C : Nat} (pre : List (Fin C)) (y : Nat) : Bool := pre.any fun x => x.1 == y
theorem hasP_snoc {C : Nat} (pre : List (Fin C)) (x : Fin C) (y : Nat) : hasP (pre ++ [x]) y = (hasP pre y || x.1 == y) := by simp [hasP]
theorem hasP_all {C : Nat} {y : Nat} (h : y < C) : hasP (seqTo C C) y = true := by
  unfold hasP
  rw [List.any_eq_true]
  exact ⟨⟨y, h⟩, seqTo_mem _ h, by simp⟩

/-- What holds between two rounds. -/
structure MInv (w W : World) (A : Option Addr) (n c C : Nat) (T : Nat → Int) (pre : List (Fin C)) : Prop where
  row : W.rowIs (w.heap.size + 1) 3 C (fun y => .int .i64 (if hasP pre y = true then T y else 0))
  b0 : Box W w.heap.size 24 #[.slice A n c]
  b2 : Box W (w.heap.size + 1 + 1) 24 #[.slice (some ⟨w.heap.size + 1, 0, none⟩) C C]
  below : Below w.heap.size w W
  size : w.heap.size + 6 ≤ W.heap.size
theorem MInv.grown {w W Y : World} {A : Option Addr} {n c C : Nat} {T : Nat → Int} {pre : List (Fin C)} {row : Option Nat} (h : MInv w W A n c C T pre) (hg : W.grownBy Y row) (hr : ∀ r, row = some r → w.heap.size + 6 ≤ r) : MInv w Y A n c C T pre := by
  have hs := h.size
  have hk : ∀ k, k < w.heap.size + 6 → Y.heap[k]? = W.heap[k]? := fun k hk => hg.block k (by omega) (fun e => by have := hr k e.symm; omega)
  exact ⟨h.row.of_block (hk _ (by omega)), (hk _ (by omega)).trans h.b0, (hk _ (by omega)).trans h.b2, h.below.grown hg (Nat.le_trans (by omega) hs) (fun k e => by have := hr k e; omega), Nat.le_trans hs hg.size⟩
theorem MInv.set_ {w W : World} {A : Option Addr} {n c C : Nat} {T : Nat → Int} {pre : List (Fin C)} (h : MInv w W A n c C T pre) (x : Fin C) : MInv w (W.setCell ⟨w.heap.size + 1, x.1, none⟩ (.int .i64 (T x.1))) A n c C T (pre ++ [x]) := by
  refine ⟨(h.row.set x.1 _).congr (fun y _ => ?_), h.b0.other (by simp) _, h.b2.other (by simp) _, h.below.setCell (by simp) _, by simpa [World.setCell] using h.size⟩
  rw [hasP_snoc]
  by_cases e : y = x.1
  · subst e
    simp
  · rw [if_neg e]
    have : (x.1 == y) = false := by simpa using fun e' => e e'.symm
    rw [this, Bool.or_false]
theorem MInv.drew {w W : World} {A : Option Addr} {n c C : Nat} {T : Nat → Int} {pre : List (Fin C)} (h : MInv w W A n c C T pre) : MInv w W.drew A n c C T pre := ⟨h.row, h.b0, h.b2, h.below.drew, h.size⟩
theorem MInv.drewN {w W : World} {A : Option Addr} {n c C : Nat} {T : Nat → Int} {pre : List (Fin C)} (h : MInv w W A n c C T pre) (k : Nat) : MInv w (W.drewN k) A n c C T pre := ⟨h.row, h.b0, h.b2, Go.below_drewN h.below k, h.size⟩

set_option maxHeartbeats 2000000 in
set_option maxRecDepth 100000 in
theorem matched_any (A : Option Addr) (n c v C : Nat) (B : Nat → Int) (w : World) (hI : IntsAt w 0 A n B) (hv : v ≤ 3) (hn : 1 ≤ n) (hn9 : n ≤ 1000) (hC : C ≤ 1000) :
    Calls Tryz.prog 53 #[.slice A n c, .int .i64 (v : Int), .int .i64 (C : Int)] w fun e w' => ∃ x, e = .returned x ∧ GaveInts w C (fun k => B (placeN v n k)) x w' := by
  obtain ⟨i0, hi, hz0, hz1, hz2⟩ := info_parts intInfo
  have hmk := fun W => run_make_row (P := Tryz.prog) 24 3 i0 (.int .i64 0) Tryz.underlying24 hi hz0 hz1 rfl .i64 .i64 C (by rw [hz2]; omega) (by omega) W
  have HI := hide hI
  clear hI hi hz0 hz1 hz2
  refine (callsIn_wide (n := 9)).1 ?_
  refine callsIn_of_wp_marks Tryz.func53 rfl trivial ?_ rfl
  refine wpIn_wide.2 ?_
  simp only [Tryz.ntmps53, List.size_toArray, List.length_cons, List.length_nil, Nat.reduceAdd, Nat.reduceSub, Array.replicate_succ, Array.replicate_zero, List.push_toArray, List.append_toArray, List.nil_append, List.cons_append]
  go_wp2_with fail
  refine (placesOf_any _ _ _ _).mono ?_
  rintro e w5 ⟨rfl, hw5⟩
  have hz5 : w5.heap.size = w.heap.size + 6 := by rw [← hw5]; simp
  have hA5 : MInv w w5 A n c C (fun k => B (placeN v n k)) [] := by
    refine ⟨?_, ?_, ?_, ?_, by omega⟩
    · rw [← hw5]
      have h := World.rowIs_made (w.alloc (.cells #[.slice A n c] 24)) (.int .i64 0) C 3
      simp only [World.size_alloc] at h
      exact ((((h.alloc _).alloc _).alloc _).alloc _).congr (fun _ _ => rfl)
    · rw [← hw5]; exact (((((Box.made rfl).alloc _).alloc _).alloc _).alloc _).alloc _
    · rw [← hw5]; exact (((Box.made (by simp)).alloc _).alloc _).alloc _
    · rw [← hw5]; (repeat (first | (with_reducible exact Below.refl _ _) | (with_reducible refine Go.below_drewN ?_ _) | (with_reducible refine Below.drew ?_) | (with_reducible refine Below.alloc ?_ (by first | exact Nat.le_refl _ | (simp; done) | (simp; omega) | omega) _) | (with_reducible refine Below.setCell ?_ (by first | exact Nat.le_refl _ | (simp; done) | (simp; omega) | omega) _)))
  have bv : Box w5 (w.heap.size + 3) 3 #[.int .i64 (v : Int)] := by rw [← hw5]; exact ((Box.made (by simp)).alloc _).alloc _
  have bn : Box w5 (w.heap.size + 3 + 1) 3 #[.int .i64 (n : Int)] := by rw [← hw5]; exact (Box.made (by simp)).alloc _
  have bc : Box w5 (w.heap.size + 3 + 1 + 1) 3 #[.int .i64 (C : Int)] := by rw [← hw5]; exact Box.made (by simp)
  clear hw5 hmk
  have HZ5 := hide hz5
  clear hz5
  simp only [World.size_alloc]
  go_wp2_with fail
  refine (wpIn_wide (n := 9)).1 ?_
  apply wpIn_rangeFunc_ownG (n := 9) (encs := encP v n C) (Kp := K3 (w.heap.size + 3)) rfl (by decide) rfl trivial (enters_of Tryz.func116 (by kernel_rfl) rfl)
    (places_stops 8 (w.heap.size + 3) v n C w5 bv bn bc hv hn hn9 hC)
    K3.trans (fun W l o o' hl h _ _ => K3.put (by have := HZ5.out; omega)) (Below.refl _ _) (fun _ => rfl)
    (fun pre W => MInv w W A n c C (fun k => B (placeN v n k)) pre) (fun _ _ _ => False)
  case hI => exact fun pre X Y row hs hg hr => hs.grown hg (fun r e => by have := (hr r e).1; have := HZ5.out; omega)
  case hIx => exact fun c s X Y row hs _ _ => hs
  case h0 => exact hA5
  case hassign =>
    intro l x W K hK
    unfold encP
    gi_wp2
    exact hK
  case hbody =>
    rintro l pre x W hM hlen
    have hx2 := x.2
    have hpl := placeN_lt (v := v) (k := x.1) (show 0 < n by omega)
    have HM := hide (hM.drew.set_ x)
    have x2 : W.cell? ⟨w.heap.size + 1 + 1, 0, none⟩ = some (.slice (some ⟨w.heap.size + 1, 0, none⟩) C C) := hM.b2.at_ 0
    have hI := HI.out.below hM.below
    obtain ⟨b, o, rfl, -, hb, hcell⟩ := hI _ hpl
    have x0 : W.cell? ⟨w.heap.size, 0, none⟩ = some (.slice (some ⟨b, o, none⟩) n c) := hM.b0.at_ 0
    have hc := hM.row.cell hx2
    have hf := hM.row.frozen x.1
    have hMz := hM.size
    have HO := hide ((Only.refl (w.heap.size + 1) W).drew.set_ x.1 (.int .i64 (B (placeN v n x.1))))
    generalize placeN v n x.1 = p at *
    generalize B p = u at *
    gi_wp2_with fail
    gi_region_with (fail)
    all_goals
      gi_wp2
      exact ⟨⟨HO.out.size, fun q o' hq hk _ => (HO.out.block q (Array.getElem?_eq_some_iff.1 hk).1 (fun e => by injection e; have := HZ5.out; omega)).trans hk⟩, K3.of_only HO.out (by have := HZ5.out; omega) (by omega), HM.out⟩
  case hdone =>
    rintro D xs W hD hxs hM hK
    have x2 : W.cell? ⟨w.heap.size + 1 + 1, 0, none⟩ = some (.slice (some ⟨w.heap.size + 1, 0, none⟩) C C) := hM.b2.at_ 0
    have hK' := hide hK
    have HXS := hide hxs
    clear hxs hK
    have hlt := hM.b2.lt
    go_wp2_with fail
    refine ⟨by simp, .inl ⟨_, _, rfl, run_takeDeferred hK'.out, ?_⟩⟩
    refine ⟨_, by first | exact results_tmp rfl _ _ _ | rfl, _, rfl, ?_⟩
    have hDz : D < W.heap.size := (Array.getElem?_eq_some_iff.1 hK'.out).1
    have hMz := hM.size
    have hz5 := HZ5.out
    have hM3 : MInv w (W.putObj D (.deferred none)) A n c C (fun k => B (placeN v n k)) xs := hM.grown (grownBy_putObj' W D _) (fun r e => by cases e; omega)
    have hr := hM3.row.congr (g := fun y => .int .i64 (B (placeN v n y))) (fun y hy => by rw [HXS.out, if_pos (hasP_all hy)])
    exact GaveInts.of_row hr (by omega) hM3.below
  case hstop => exact fun D c pre W _ _ h _ => h.elim
end Go.Proofs.YtcdplfjegopmdaaGreat.K
