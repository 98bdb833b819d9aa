/- Lemmas: H3, H8, H9. -/
import Derived.Test.YtlhbkjgddpelgaaBk09
import Derived.Test.YtlhbkjgddpelgaaBk10
import Derived.Test.YtlhbkjgddpelgaaBk12
import Derived.Test.YtlhbkjgddpelgaaBk13
import Derived.Test.YtlhbkjgddpelgaaBk14
set_option linter.unusedVariables false
set_option linter.unusedSimpArgs false
/- best of the reference. -/
namespace Go.Proofs.Ytlhbkjgddpelgaa
open Go.RowKit Go.Great
set_option maxHeartbeats 4000000 in
set_option maxRecDepth 100000 in
theorem bestR_any (A : Option Addr) (c cnt frm stp : Nat) (G : Nat → Int) (w : World) (hc1 : cnt ≤ 1000) (hfr : frm ≤ 31) (hst : ∀ n, n < cnt → stp * n < 1008) (hI : IntsAt w 0 A 31 G) (hG : ∀ j, j < 31 → -100000 ≤ G j ∧ G j ≤ 100000) (h0 : 0 < cnt) :
    Calls Try.prog 28 #[.slice A 31 c, .int .i64 (cnt : Int), .int .i64 (frm : Int), .int .i64 (stp : Int)] w fun e w' => e = .returned (.tuple #[.int .i64 (bsN (fun n => corS (fun j => seqF (stp * n) (frm + j)) G 31) cnt : Int), .int .i64 (bsC (fun n => corS (fun j => seqF (stp * n) (frm + j)) G 31) cnt)]) ∧ Below w.heap.size w w' := by
  have HS := hide (fun n W (hn : n < cnt) => SequenceOfR_any (stp * n) W (hst n hn))
  have HG := hide (fun n j (hj : j < 62) => seqF_sign (i := stp * n) hj)
  have HF := hide hG
  have HI := hide hI
  have HST := hide hst
  obtain ⟨Q, hQ⟩ : ∃ z : Nat → Nat → Int, (fun n => seqF (stp * n)) = z := ⟨_, rfl⟩
  have hQn := fun n => congrFun hQ n
  try simp only at hQn
  simp only [hQn] at HS HG ⊢
  clear hQ hQn hG hI hst
  obtain ⟨K, hK⟩ : ∃ z : Nat → Int, (fun n => corS (fun j => Q n (frm + j)) G 31) = z := ⟨_, rfl⟩
  have HK := hide (fun n => (show corS (fun j => Q n (frm + j)) G 31 = K n from congrFun hK n))
  rw [hK]
  clear hK
  go_enter Try.func28, Try.ntmps28
  go_wp2_with fail
  go_loopw [10, 11, 12] (fun p q i wr => ∃ (n : Nat) (m : Int), n ≤ cnt ∧ p = .int .i64 (bsN K n : Int) ∧ q = .int .i64 m ∧ (0 < n → m = bsC K n) ∧ i = .int .i64 (n : Int) ∧ Below w.heap.size w wr) (fun _ _ i _ => cnt - (Go.RowKit.intOf i).toNat)
  case atStart => exact ⟨0, 0, Nat.zero_le _, rfl, rfl, fun h => absurd h (Nat.lt_irrefl 0), rfl, Below.refl _ _⟩
  case round =>
    obtain ⟨n, m, hn, rfl, rfl, hm, rfl, hB⟩ := hrel
    obtain ⟨wA, rfl⟩ : ∃ x : World, x = wr := ⟨_, rfl⟩
    by_cases hlt : n < cnt
    · have hltz : (n : Int) < (cnt : Int) := by omega
      have e0 : (stp : Int) * (n : Int) = ((stp * n : Nat) : Int) := (Int.natCast_mul stp n).symm
      have hsn := HST.out n hlt
      have q0 : IntKind.i64.wrap ((stp : Int) * (n : Int)) = ((stp * n : Nat) : Int) := by rw [e0]; exact IntWalk.i64_in _ (by omega)
      have HSn := hide (fun W => HS.out n W hlt)
      have HGn := hide (fun j hj => HG.out n j hj)
      have HKn := hide (HK.out n)
      have HN := hide (show bsN K (n + 1) = if bsC K n < K n then n else bsN K n from rfl)
      have HC := hide (show bsC K (n + 1) = if bsC K n < K n then K n else bsC K n from rfl)
      have HM := hide hm
      have HZ := hide (fun (h : n = 0) => (show bsN K (n + 1) = n ∧ bsC K (n + 1) = K n from by
        subst h
        have a : ¬ bsC K 0 < K 0 := by show ¬ K 0 < K 0; omega
        exact ⟨by show (if bsC K 0 < K 0 then 0 else bsN K 0) = 0; rw [if_neg a]; rfl, by show (if bsC K 0 < K 0 then K 0 else bsC K 0) = K 0; rw [if_neg a]; rfl⟩))
      obtain ⟨sn, hsn'⟩ : ∃ z : Int, ((stp * n : Nat) : Int) = z := ⟨_, rfl⟩
      simp only [hsn'] at q0 HSn
      obtain ⟨R, hR⟩ : ∃ z, Q n = z := ⟨_, rfl⟩
      simp only [hR] at HSn HGn HKn
      obtain ⟨kv, hkv⟩ : ∃ z, K n = z := ⟨_, rfl⟩
      simp only [hkv] at HKn HN HC HZ
      obtain ⟨bn, hbn⟩ : ∃ z, bsN K n = z := ⟨_, rfl⟩
      simp only [hbn] at HN ⊢
      clear e0 hsn hsn' hR hkv hbn hm
      go_wp2_with fail
      refine (HSn.out _).mono ?_
      rintro e w1 ⟨v, rfl, B, b, rfl, hb, hJ, hb1⟩
      have HJ := hide (hJ.weak (Nat.zero_le _))
      have hB1 := hB.trans (hb1.mono hB.size)
      have HI1 := hide (HI.out.below hB1)
      clear hJ hB hb1
      go_wp2_with fail
      go_loopw [14, 15] (fun s x wr => ∃ k : Nat, k ≤ 31 ∧ s = .int .i64 (corS (fun j => R (frm + j)) G k) ∧ x = .int .i64 (k : Int) ∧ Below w1.heap.size w1 wr) (fun _ x _ => 31 - (Go.RowKit.intOf x).toNat)
      case atStart => exact ⟨0, Nat.zero_le _, rfl, rfl, Below.refl _ _⟩
      case round =>
        obtain ⟨k, hk, rfl, rfl, hB⟩ := hrel
        obtain ⟨wB, rfl⟩ : ∃ x : World, x = wr := ⟨_, rfl⟩
        have hs := corS_le (F := fun j => R (frm + j)) (G := G) (k := k) fun j hj => ⟨HGn.out (frm + j) (by omega), HF.out j (by omega)⟩
        have HSS := hide (show corS (fun j => R (frm + j)) G (k + 1) = corS (fun j => R (frm + j)) G k + R (frm + k) * G k from rfl)
        by_cases hlk : k < 31
        · obtain ⟨s, hs'⟩ : ∃ s, corS (fun j => R (frm + j)) G k = s := ⟨_, rfl⟩
          rw [hs'] at hs HSS
          try simp only [hs']
          have hlkz : (k : Int) < 31 := by omega
          obtain ⟨fk, hfk⟩ : ∃ z : Nat, frm + k = z := ⟨_, rfl⟩
          have hfk62 : fk < 62 := by omega
          have hfkz : (fk : Int) < 62 := by omega
          have q3 : IntKind.i64.wrap ((frm : Int) + (k : Int)) = (fk : Int) := by rw [IntWalk.i64_in _ (by omega)]; omega
          obtain ⟨b0, o0, rfl, -, -, x0⟩ := (HI1.out.below hB) k hlk
          obtain ⟨b', o', rfl, -, -, y0⟩ := (HJ.out.below hB) fk hfk62
          have hf := HGn.out fk hfk62
          have hg := HF.out k hlk
          rw [hfk] at HSS
          generalize G k = p at *
          generalize R fk = q at *
          have hpq : -100000 ≤ q * p ∧ q * p ≤ 100000 := by rcases hf with e | e <;> rw [e] <;> omega
          obtain ⟨r, hr⟩ : ∃ r, r = q * p := ⟨_, rfl⟩
          have q1 : IntKind.i64.wrap (q * p) = r := by rw [IntWalk.i64_in _ (by omega), hr]
          rw [← hr] at HSS hpq
          have q2 : IntKind.i64.wrap (s + r) = s + r := IntWalk.i64_in _ (by omega)
          clear hf hg hpq hr hs hs' hfk
          go_wp2_with fail
          go_quiet (fail)
          go_wp2_with fail
          go_roundw
          case rel => exact ⟨k + 1, by omega, by rw [HSS.out], by go_num, ⟨hB.os, hB.tape, hB.output, hB.size, hB.block⟩⟩
          case measure => simp [Go.RowKit.intOf]; omega
        · obtain rfl : k = 31 := by omega
          rw [HKn.out] at hs
          simp only [HKn.out]
          have hBB := hB1.trans (hB.mono hB1.size)
          by_cases hn0 : n = 0
          · obtain ⟨z1, z2⟩ := HZ.out hn0
            have HZ1 := hide z1
            have HZ2 := hide z2
            have t1 : ((n : Int) == 0) = true := by subst hn0; rfl
            clear z1 z2 hn0 hs
            go_wp2_with fail
            go_roundw
            case rel => exact ⟨n + 1, kv, by omega, by rw [HZ1.out], rfl, fun _ => by rw [HZ2.out], by go_num, hBB⟩
            case measure => simp [Go.RowKit.intOf]; omega
          · have t1 : ((n : Int) == 0) = false := by simpa using hn0
            have hmb := HM.out (by omega)
            rw [← hmb] at HN HC
            clear hmb hs
            by_cases hgt : m < kv
            · have t2 : decide (m < kv) = true := by simpa using hgt
              rw [if_pos hgt] at HN HC
              clear hgt
              go_wp2_with fail
              go_roundw
              case rel => exact ⟨n + 1, kv, by omega, by rw [HN.out], rfl, fun _ => by rw [HC.out], by go_num, hBB⟩
              case measure => simp [Go.RowKit.intOf]; omega
            · have t2 : decide (m < kv) = false := by simpa using hgt
              rw [if_neg hgt] at HN HC
              clear hgt
              go_wp2_with fail
              go_roundw
              case rel => exact ⟨n + 1, m, by omega, by rw [HN.out], rfl, fun _ => by rw [HC.out], by go_num, hBB⟩
              case measure => simp [Go.RowKit.intOf]; omega
    · obtain rfl : n = cnt := by omega
      have hmb := hm h0
      subst hmb
      go_wp2_with fail
      refine bodyPost_ret (v := .tuple #[.int .i64 (bsN K n : Int), .int .i64 (bsC K n)]) (by simp [results, Try.results28, go_sem]) rfl ⟨rfl, hB⟩
end Go.Proofs.Ytlhbkjgddpelgaa
/- IdentityAt and Search of the reference. -/
namespace Go.Proofs.Ytlhbkjgddpelgaa
open Go.RowKit Go.Great
theorem recE_vE (n : Nat) (X : Nat → Int) : recE n X = vE n X := by
  unfold recE vE
  by_cases h : 120 < n
  · rw [if_pos h, show decide ((n : Int) ≤ 120) = false from by simp; omega]
    rfl
  · rw [if_neg h, show decide ((n : Int) ≤ 120) = true from by simp; omega]
    show (if (0 : Int) = 0 then (if valsE n X = 0 then 0 else valsE n X) else 0) = valsE n X
    rw [if_pos rfl]
    split
    · rename_i h; exact h.symm
    · rfl
theorem idE_right {n : Nat} {X : Nat → Int} {a : Int} (h : recE n X = 0) : idE n X a = unI (withinB a 0 ((n : Int) - 62)) 6 := by
  unfold idE
  rw [h]
  show (if (0 : Int) = 0 then (if unI (withinB a 0 ((n : Int) - 62)) 6 = 0 then 0 else unI (withinB a 0 ((n : Int) - 62)) 6) else 0) = _
  rw [if_pos rfl]
  split
  · rename_i h; exact h.symm
  · rfl
theorem seE_right {n : Nat} {X : Nat → Int} (h : recE n X = 0) : seE n X = unI (decide ((62 : Int) ≤ (n : Int))) 10 := by
  unfold seE
  rw [h]
  show (if (0 : Int) = 0 then (if unI (decide ((62 : Int) ≤ (n : Int))) 10 = 0 then 0 else unI (decide ((62 : Int) ≤ (n : Int))) 10) else 0) = _
  rw [if_pos rfl]
  split
  · rename_i h; exact h.symm
  · rfl
set_option maxHeartbeats 4000000 in
set_option maxRecDepth 100000 in
theorem IdentityAtR_any (A : Option Addr) (n c : Nat) (X : Nat → Int) (a : Int) (w : World) (hr : recE n X = 0) (hnc : n ≤ c) (hc9 : c ≤ 9223372036854775807) (hI : IntsAt w 0 A n X) :
    Calls Try.prog 11 #[.slice A n c, .int .i64 a] w fun e w' => e = .returned (.tuple #[.agg #[.int .i64 (idP n X a), .int .i64 (idI n X a), .int .i64 (idC n X a)], .int .i64 (idE n X a)]) ∧ Below w.heap.size w w' := by
  obtain ⟨hn, hX⟩ := recE_zero hr
  have HEE := hide (idE_right (a := a) hr)
  have HP := hide (show idP n X a = if idE n X a = 0 then a else 0 from rfl)
  have HQ := hide (show idI n X a = if idE n X a = 0 then (fId X a.toNat : Int) else 0 from rfl)
  have HR := hide (show idC n X a = if idE n X a = 0 then fCo X a.toNat else 0 from rfl)
  have HI := hide hI
  have q1 : IntKind.i64.wrap ((n : Int) - 62) = (n : Int) - 62 := IntWalk.i64_in _ (by omega)
  have HW := hide (fun W => within_any a 0 ((n : Int) - 62) W)
  generalize idP n X a = vp at *
  generalize idI n X a = vi at *
  generalize idC n X a = vc at *
  generalize idE n X a = V at *
  clear hI
  cases hw : withinB a 0 ((n : Int) - 62)
  · rw [hw] at HEE HW
    have hv : V = 6 := HEE.out
    subst hv
    have HPP := hide (HP.out.trans (if_neg (by decide)))
    have HQQ := hide (HQ.out.trans (if_neg (by decide)))
    have HRR := hide (HR.out.trans (if_neg (by decide)))
    clear hw HEE HP HQ HR hX hr
    go_enter Try.func11, Try.ntmps11
    go_upto_region 1 with fail
    obtain ⟨W, hW⟩ : ∃ y : World, y = w.alloc (.cells #[.int .i64 0, .int .i64 0, .int .i64 0] 25) := ⟨_, rfl⟩
    rw [← hW]
    have b4 : Box W w.heap.size 25 #[.int .i64 0, .int .i64 0, .int .i64 0] := by rw [hW]; exact Box.made rfl
    have hB : Below w.heap.size w W := by rw [hW]; (repeat (first | (with_reducible exact Below.refl _ _) | (with_reducible refine Go.below_drewN ?_ _) | (with_reducible refine Below.drew ?_) | (with_reducible refine Below.alloc ?_ (by first | exact Nat.le_refl _ | (simp; done) | (simp; omega) | omega) _) | (with_reducible refine Below.setCell ?_ (by first | exact Nat.le_refl _ | (simp; done) | (simp; omega) | omega) _)))
    clear hW
    obtain ⟨y0, y1, y2, g0, g1, g2, hly⟩ := b4.cellsT
    have HBB := hide (b4.putT (.int .i64 0) (.int .i64 0) (.int .i64 0)).cellsT
    have HBL := hide (Below.putT hB (c := w.heap.size) (Nat.le_refl _) (.int .i64 0) (.int .i64 0) (.int .i64 0))
    clear b4 hB
    go_wp2_with (go_at_call 14; refine (HW.out _).mono ?_; rintro e w' ⟨rfl, rfl⟩)
    clear y0 y1 y2
    obtain ⟨y0, y1, y2, -⟩ := HBB.out
    refine bodyPost_ret (v := .tuple #[.agg #[.int .i64 0, .int .i64 0, .int .i64 0], .int .i64 6]) ?_ rfl ⟨by rw [HPP.out, HQQ.out, HRR.out], HBL.out⟩
    simp [results, Try.results11, go_sem, y0, y1, y2]
  · rw [hw] at HEE HW
    obtain ⟨a0, a1⟩ := withinB_iff.1 hw
    have hv : V = 0 := HEE.out
    subst hv
    obtain ⟨p, rfl⟩ : ∃ p : Nat, a = (p : Int) := ⟨a.toNat, by omega⟩
    have hp : p + 62 ≤ n := by omega
    have HPP := hide (HP.out.trans (if_pos rfl))
    have HQQ := hide (HQ.out.trans (if_pos rfl))
    have HRR := hide (HR.out.trans (if_pos rfl))
    simp only [Int.toNat_natCast] at HQQ HRR
    obtain ⟨b, o, rfl, -⟩ := HI.out 0 (by omega)
    obtain ⟨m, hm⟩ : ∃ m : Nat, p + 31 = m := ⟨_, rfl⟩
    have hs1 := bsN_below (K := fA X p) 3 (by decide)
    have hs2 := bsN_below (K := fB X p) 336 (by decide)
    have hk1 := bsC_le (M := 3100000) (fun i => fA_le (M := 100000) (fun j hj => hX (p + j) (by omega)) i) 3
    have hk2 := bsC_le (M := 3100000) (fun i => fB_le (M := 100000) (fun j hj => hX (p + j) (by omega)) i) 336
    have HB1 : Hid (∀ W, IntsAt W 0 (some ⟨b, o + p, none⟩) 31 (fun j => X (p + j)) → Calls Try.prog 28 #[.slice (some ⟨b, o + p, none⟩) 31 (c - p), .int .i64 3, .int .i64 0, .int .i64 1] W fun e w' => e = .returned (.tuple #[.int .i64 (bsN (fA X p) 3 : Int), .int .i64 (bsC (fA X p) 3)]) ∧ Below W.heap.size W w') :=
      hide (fun W k => by rw [← fA_ref]; exact bestR_any (some ⟨b, o + p, none⟩) (c - p) 3 0 1 (fun j => X (p + j)) W (by decide) (by decide) (fun n hn => by omega) k (fun j hj => hX (p + j) (by omega)) (by decide))
    have HB2 : Hid (∀ W, IntsAt W 0 (some ⟨b, o + m, none⟩) 31 (fun j => X (p + 31 + j)) → Calls Try.prog 28 #[.slice (some ⟨b, o + m, none⟩) 31 (c - m), .int .i64 336, .int .i64 31, .int .i64 3] W fun e w' => e = .returned (.tuple #[.int .i64 (bsN (fB X p) 336 : Int), .int .i64 (bsC (fB X p) 336)]) ∧ Below W.heap.size W w') :=
      hide (fun W k => by rw [← fB_ref]; exact bestR_any (some ⟨b, o + m, none⟩) (c - m) 336 31 3 (fun j => X (p + 31 + j)) W (by decide) (by decide) (fun n hn => by omega) k (fun j hj => hX (p + 31 + j) (by omega)) (by decide))
    have HI1 := hide (show IntsAt w 0 (some ⟨b, o + p, none⟩) 31 (fun j => X (p + j)) from HI.out.cut (by omega))
    have HI2 := hide (show IntsAt w 0 (some ⟨b, o + m, none⟩) 31 (fun j => X (p + 31 + j)) from by have := HI.out.cut (j := m) (m := 31) (by omega); rw [← hm] at this ⊢; exact this)
    have HF := hide (show (3 * (bsN (fB X p) 336 : Int) + (bsN (fA X p) 3 : Int)) = (fId X p : Int) from by unfold fId; omega)
    have HC := hide (show bsC (fA X p) 3 + bsC (fB X p) 336 = fCo X p from rfl)
    generalize bsN (fA X p) 3 = s1 at *
    generalize bsN (fB X p) 336 = s2 at *
    generalize bsC (fA X p) 3 = k1 at *
    generalize bsC (fB X p) 336 = k2 at *
    have q2 : IntKind.i64.wrap ((p : Int) + 31) = (m : Int) := by rw [IntWalk.i64_in _ (by omega)]; omega
    obtain ⟨e, he⟩ : ∃ e : Nat, p + 62 = e := ⟨_, rfl⟩
    have q3 : IntKind.i64.wrap ((p : Int) + 62) = (e : Int) := by rw [IntWalk.i64_in _ (by omega)]; omega
    obtain ⟨t2, ht2⟩ : ∃ z : Int, 3 * (s2 : Int) = z := ⟨_, rfl⟩
    have q4 : IntKind.i64.wrap (3 * (s2 : Int)) = t2 := by rw [IntWalk.i64_in _ (by omega)]; exact ht2
    have q5 : IntKind.i64.wrap (t2 + (s1 : Int)) = vi := by rw [IntWalk.i64_in _ (by omega), ← ht2, HQQ.out]; exact HF.out
    have q6 : IntKind.i64.wrap (k1 + k2) = vc := by rw [IntWalk.i64_in _ (by omega), HRR.out]; exact HC.out
    have d1 : m - p = 31 := by omega
    have d2 : e - m = 31 := by omega
    have l1 : p ≤ m := by omega
    have l2 : m ≤ c := by omega
    have l3 : m ≤ e := by omega
    have l4 : e ≤ c := by omega
    have z1 : (p : Int) ≤ (m : Int) := by omega
    have z2 : (m : Int) ≤ (c : Int) := by omega
    have z3 : (m : Int) ≤ (e : Int) := by omega
    have z4 : (e : Int) ≤ (c : Int) := by omega
    have n1 : ¬ c = p := by omega
    have n2 : ¬ c = m := by omega
    clear hw HEE HP HQ HR hX hr hs1 hs2 hk1 hk2 hm he ht2 HF HC HQQ HRR a0 a1 hp hn HI hnc
    go_enter Try.func11, Try.ntmps11
    go_upto_region 1 with fail
    obtain ⟨W, hW⟩ : ∃ y : World, y = w.alloc (.cells #[.int .i64 0, .int .i64 0, .int .i64 0] 25) := ⟨_, rfl⟩
    rw [← hW]
    have b4 : Box W w.heap.size 25 #[.int .i64 0, .int .i64 0, .int .i64 0] := by rw [hW]; exact Box.made rfl
    have hB : Below w.heap.size w W := by rw [hW]; (repeat (first | (with_reducible exact Below.refl _ _) | (with_reducible refine Go.below_drewN ?_ _) | (with_reducible refine Below.drew ?_) | (with_reducible refine Below.alloc ?_ (by first | exact Nat.le_refl _ | (simp; done) | (simp; omega) | omega) _) | (with_reducible refine Below.setCell ?_ (by first | exact Nat.le_refl _ | (simp; done) | (simp; omega) | omega) _)))
    clear hW
    go_wp2_with (go_at_call 14; refine (HW.out _).mono ?_; rintro e w' ⟨rfl, rfl⟩)
    refine (HB2.out _ (HI2.out.below hB)).mono ?_
    rintro e w1 ⟨rfl, hb1⟩
    have b41 := b4.below hb1
    have hB1 := hB.trans (hb1.mono hB.size)
    clear hb1 b4 hB HB2
    go_wp2_with fail
    refine (HB1.out _ (HI1.out.below hB1)).mono ?_
    rintro e w2 ⟨rfl, hb2⟩
    have b42 := b41.below hb2
    have hB2 := hB1.trans (hb2.mono hB1.size)
    clear hb2 b41 hB1 HB1
    obtain ⟨y0, y1, y2, g0, g1, g2, hly⟩ := b42.cellsT
    have HBB := hide (b42.putT (.int .i64 (p : Int)) (.int .i64 vi) (.int .i64 vc)).cellsT
    have HBL := hide (Below.putT hB2 (c := w.heap.size) (Nat.le_refl _) (.int .i64 (p : Int)) (.int .i64 vi) (.int .i64 vc))
    clear b42 hB2
    go_wp2_with fail
    clear y0 y1 y2
    obtain ⟨y0, y1, y2, -⟩ := HBB.out
    refine bodyPost_ret (v := .tuple #[.agg #[.int .i64 (p : Int), .int .i64 vi, .int .i64 vc], .int .i64 0]) ?_ rfl ⟨by rw [HPP.out], HBL.out⟩
    simp [results, Try.results11, go_sem, y0, y1, y2]
set_option maxHeartbeats 8000000 in
set_option maxRecDepth 100000 in
theorem SearchR_any (A : Option Addr) (n c : Nat) (X : Nat → Int) (w : World) (hr : recE n X = 0) (hnc : n ≤ c) (hc9 : c ≤ 9223372036854775807) (hI : IntsAt w 0 A n X) :
    Calls Try.prog 12 #[.slice A n c] w fun e w' => e = .returned (.tuple #[.agg #[.int .i64 (seP n X), .int .i64 (seI n X), .int .i64 (seC n X)], .int .i64 (seE n X)]) ∧ Below w.heap.size w w' := by
  obtain ⟨hn, hX⟩ := recE_zero hr
  have HEE := hide (seE_right hr)
  have HP := hide (show seP n X = if seE n X = 0 then (bsN (fCo X) (n - 61) : Int) else 0 from rfl)
  have HQ := hide (show seI n X = if seE n X = 0 then (fId X (bsN (fCo X) (n - 61)) : Int) else 0 from rfl)
  have HR := hide (show seC n X = if seE n X = 0 then fCo X (bsN (fCo X) (n - 61)) else 0 from rfl)
  have HI := hide hI
  generalize seP n X = vp at *
  generalize seI n X = vi at *
  generalize seC n X = vc at *
  generalize seE n X = V at *
  clear hI
  by_cases h62 : 62 ≤ n
  · have hz62 : ¬ (n : Int) < 62 := by omega
    have hv : V = 0 := by rw [HEE.out, show decide ((62 : Int) ≤ (n : Int)) = true from by simp; omega]; rfl
    have HPP := hide (HP.out.trans (if_pos hv))
    have HQQ := hide (HQ.out.trans (if_pos hv))
    have HRR := hide (HR.out.trans (if_pos hv))
    have HIA : Hid (∀ (p : Nat) W, p + 62 ≤ n → IntsAt W 0 A n X → Calls Try.prog 11 #[.slice A n c, .int .i64 (p : Int)] W fun e w' => e = .returned (.tuple #[.agg #[.int .i64 (p : Int), .int .i64 (fId X p : Int), .int .i64 (fCo X p)], .int .i64 0]) ∧ Below W.heap.size W w') :=
      hide (fun p W hp k => by
        have h := IdentityAtR_any A n c X (p : Int) W hr hnc hc9 k
        have e0 : idE n X (p : Int) = 0 := by rw [idE_right hr, show withinB (p : Int) 0 ((n : Int) - 62) = true from by simp [withinB]; omega]; rfl
        rw [show idP n X (p : Int) = (p : Int) from if_pos e0, show idI n X (p : Int) = (fId X p : Int) from if_pos e0, show idC n X (p : Int) = fCo X p from if_pos e0, e0] at h
        exact h)
    obtain ⟨K, hK⟩ : ∃ z : Nat → Int, fCo X = z := ⟨_, rfl⟩
    obtain ⟨J, hJ⟩ : ∃ z : Nat → Nat, fId X = z := ⟨_, rfl⟩
    simp only [hK, hJ] at HIA HPP HQQ HRR
    have HNN := hide (bsN_next K)
    have HN0 := hide (show bsN K 1 = 0 from by show (if _ then _ else _) = _; split <;> rfl)
    have HN1 := hide h62
    subst hv
    clear HEE HP HQ HR hX hr hK hJ h62
    go_enter Try.func12, Try.ntmps12
    go_upto_region 1 with fail
    obtain ⟨W, hW⟩ : ∃ y : World, y = w.alloc (.cells #[.int .i64 0, .int .i64 0, .int .i64 0] 25) := ⟨_, rfl⟩
    rw [← hW]
    have b2 : Box W w.heap.size 25 #[.int .i64 0, .int .i64 0, .int .i64 0] := by rw [hW]; exact Box.made rfl
    have hB : Below w.heap.size w W := by rw [hW]; (repeat (first | (with_reducible exact Below.refl _ _) | (with_reducible refine Go.below_drewN ?_ _) | (with_reducible refine Below.drew ?_) | (with_reducible refine Below.alloc ?_ (by first | exact Nat.le_refl _ | (simp; done) | (simp; omega) | omega) _) | (with_reducible refine Below.setCell ?_ (by first | exact Nat.le_refl _ | (simp; done) | (simp; omega) | omega) _)))
    clear hW
    go_upto_region 4 with fail
    obtain ⟨W4, hW4⟩ : ∃ q : World, q = W.alloc (.cells #[.int .i64 0, .int .i64 0, .int .i64 0] 25) := ⟨_, rfl⟩
    try rw [← hW4]
    have b4 : Box W4 W.heap.size 25 #[.int .i64 0, .int .i64 0, .int .i64 0] := by rw [hW4]; exact Box.made rfl
    have hb4 : Below W.heap.size W W4 := by rw [hW4]; (repeat (first | (with_reducible exact Below.refl _ _) | (with_reducible refine Go.below_drewN ?_ _) | (with_reducible refine Below.drew ?_) | (with_reducible refine Below.alloc ?_ (by first | exact Nat.le_refl _ | (simp; done) | (simp; omega) | omega) _) | (with_reducible refine Below.setCell ?_ (by first | exact Nat.le_refl _ | (simp; done) | (simp; omega) | omega) _)))
    have HI4 := hide (HI.out.below hB)
    have HB4 := hide hB
    have HB2 := hide b2
    obtain ⟨g4, hg4⟩ : ∃ g, W.heap.size = g := ⟨_, rfl⟩
    try rw [hg4]
    rw [hg4] at b4 hb4
    have HG4 := hide hg4
    clear hW4 hg4 hB b2 HI
    go_wp2_with fail
    go_loopw [5, 6, 7] (fun i _ _ wr => ∃ (k : Nat) (z0 z1 z2 : Int), k + 61 ≤ n ∧ i = .int .i64 (k : Int) ∧ Box wr g4 25 #[.int .i64 z0, .int .i64 z1, .int .i64 z2] ∧ (0 < k → z0 = (bsN K k : Int) ∧ z1 = (J (bsN K k) : Int) ∧ z2 = K (bsN K k)) ∧ Below g4 W wr) (fun i _ _ _ => n - (Go.RowKit.intOf i).toNat)
    case atStart => exact ⟨0, 0, 0, 0, by have := HN1.out; omega, rfl, b4, fun h => absurd h (Nat.lt_irrefl 0), hb4⟩
    case round =>
      clear b4 hb4
      obtain ⟨k, z0, z1, z2, hk2, rfl, hb, hz, hB⟩ := hrel
      obtain ⟨wA, rfl⟩ : ∃ x : World, x = wr := ⟨_, rfl⟩
      have hBB : Below W.heap.size W wA := by rw [HG4.out]; exact hB
      have q1 : IntKind.i64.wrap ((k : Int) + 62) = (k : Int) + 62 := IntWalk.i64_in _ (by omega)
      by_cases hlt : k + 62 ≤ n
      · have hltz : (k : Int) + 62 ≤ (n : Int) := by omega
        have HZ := hide hz
        clear hz
        go_wp2_with fail
        refine (HIA.out k _ hlt (HI4.out.below hBB)).mono ?_
        rintro e w7 ⟨rfl, hb7⟩
        have b7 := hb.below hb7
        have hB7 := hB.trans (hb7.mono (by have := hb.lt; omega))
        clear hb hB hBB hb7
        go_upto_region 8 with fail
        obtain ⟨W8, hW8⟩ : ∃ z : World, z = w7.alloc (.cells #[.int .i64 (k : Int), .int .i64 (J k : Int), .int .i64 (K k)] 25) := ⟨_, rfl⟩
        try rw [← hW8]
        have b8 : Box W8 w7.heap.size 25 #[.int .i64 (k : Int), .int .i64 (J k : Int), .int .i64 (K k)] := by rw [hW8]; exact Box.made rfl
        have b6 : Box W8 g4 25 #[.int .i64 z0, .int .i64 z1, .int .i64 z2] := by rw [hW8]; exact b7.alloc _
        have hB8 : Below g4 W W8 := by rw [hW8]; exact hB7.alloc (by have := b7.lt; omega) _
        clear hW8 hB7 b7
        obtain ⟨x0, x1, x2, -, -, -, hlx⟩ := b8.cellsT
        obtain ⟨y0, y1, y2, g0, g1, g2, hly⟩ := b6.cellsT
        have HB6 := hide b6
        have HX6 := hide (b6.putT (.int .i64 (k : Int)) (.int .i64 (J k : Int)) (.int .i64 (K k)))
        have HB8 := hide hB8
        have HY8 := hide (Below.putT hB8 (c := g4) (Nat.le_refl _) (.int .i64 (k : Int)) (.int .i64 (J k : Int)) (.int .i64 (K k)))
        clear b8 b6 hB8
        by_cases hk0 : k = 0
        · have HM := hide (show bsN K (k + 1) = k from by rw [hk0]; exact HN0.out)
          have t0 : ((k : Int) == 0) = true := by subst hk0; rfl
          clear hk0
          go_wp2_with fail
          go_roundw
          case rel => exact ⟨k + 1, _, _, _, by omega, by go_num, HX6.out, fun _ => by rw [HM.out]; exact ⟨rfl, rfl, rfl⟩, HY8.out⟩
          case measure => simp [Go.RowKit.intOf]; omega
        · obtain ⟨e0, e1, e2⟩ := HZ.out (by omega)
          have HN := hide (HNN.out k)
          rw [← e2] at HN
          have HE0 := hide e0
          have HE1 := hide e1
          have HE2 := hide e2
          have t0 : ((k : Int) == 0) = false := by simpa using hk0
          clear hk0 e0 e1 e2
          by_cases hgt : z2 < K k
          · have t1 : decide (z2 < K k) = true := by simpa using hgt
            rw [if_pos hgt] at HN
            clear hgt
            go_wp2_with fail
            go_roundw
            case rel => exact ⟨k + 1, _, _, _, by omega, by go_num, HX6.out, fun _ => by rw [HN.out]; exact ⟨rfl, rfl, rfl⟩, HY8.out⟩
            case measure => simp [Go.RowKit.intOf]; omega
          · have t1 : decide (z2 < K k) = false := by simpa using hgt
            rw [if_neg hgt] at HN
            clear hgt
            go_wp2_with fail
            go_roundw
            case rel => exact ⟨k + 1, _, _, _, by omega, by go_num, HB6.out, fun _ => by rw [HN.out]; exact ⟨HE0.out, HE1.out, HE2.out⟩, HB8.out⟩
            case measure => simp [Go.RowKit.intOf]; omega
      · have hkn : n - 61 = k := by omega
        have hltz : ¬ (k : Int) + 62 ≤ (n : Int) := by omega
        have hk0 : 0 < k := by have := HN1.out; omega
        obtain ⟨e0, e1, e2⟩ := hz hk0
        rw [hkn] at HPP HQQ HRR
        have HS := hide (show vp = z0 ∧ vi = z1 ∧ vc = z2 from ⟨HPP.out.trans e0.symm, HQQ.out.trans e1.symm, HRR.out.trans e2.symm⟩)
        obtain ⟨x0, x1, x2, -, -, -, hlx⟩ := hb.cellsT
        have b2 := HB2.out.below hBB
        have hBF := HB4.out.trans (hBB.mono HB4.out.size)
        obtain ⟨y0, y1, y2, g0, g1, g2, hly⟩ := b2.cellsT
        have HZ1 := hide (b2.putT (.int .i64 z0) (.int .i64 z1) (.int .i64 z2)).cellsT
        have HZ2 := hide (Below.putT hBF (c := w.heap.size) (Nat.le_refl _) (.int .i64 z0) (.int .i64 z1) (.int .i64 z2))
        clear hb b2 hB hBB hBF hkn hlt e0 e1 e2 hz HPP HQQ HRR hk0
        go_wp2_with fail
        clear x0 x1 x2 y0 y1 y2
        obtain ⟨y0, y1, y2, -⟩ := HZ1.out
        obtain ⟨s0, s1, s2⟩ := HS.out
        refine bodyPost_ret (v := .tuple #[.agg #[.int .i64 z0, .int .i64 z1, .int .i64 z2], .int .i64 0]) ?_ rfl ⟨by rw [s0, s1, s2], HZ2.out⟩
        simp [results, Try.results12, go_sem, y0, y1, y2]
  · have hz62 : (n : Int) < 62 := by omega
    have hv : V = 10 := by rw [HEE.out, show decide ((62 : Int) ≤ (n : Int)) = false from by simp; omega]; rfl
    subst hv
    have HPP := hide (HP.out.trans (if_neg (by decide)))
    have HQQ := hide (HQ.out.trans (if_neg (by decide)))
    have HRR := hide (HR.out.trans (if_neg (by decide)))
    clear HEE HP HQ HR hX hr h62
    go_enter Try.func12, Try.ntmps12
    go_upto_region 1 with fail
    obtain ⟨W, hW⟩ : ∃ y : World, y = w.alloc (.cells #[.int .i64 0, .int .i64 0, .int .i64 0] 25) := ⟨_, rfl⟩
    rw [← hW]
    have b2 : Box W w.heap.size 25 #[.int .i64 0, .int .i64 0, .int .i64 0] := by rw [hW]; exact Box.made rfl
    have hB : Below w.heap.size w W := by rw [hW]; (repeat (first | (with_reducible exact Below.refl _ _) | (with_reducible refine Go.below_drewN ?_ _) | (with_reducible refine Below.drew ?_) | (with_reducible refine Below.alloc ?_ (by first | exact Nat.le_refl _ | (simp; done) | (simp; omega) | omega) _) | (with_reducible refine Below.setCell ?_ (by first | exact Nat.le_refl _ | (simp; done) | (simp; omega) | omega) _)))
    clear hW
    obtain ⟨y0, y1, y2, g0, g1, g2, hly⟩ := b2.cellsT
    have HBB := hide (b2.putT (.int .i64 0) (.int .i64 0) (.int .i64 0)).cellsT
    have HBL := hide (Below.putT hB (c := w.heap.size) (Nat.le_refl _) (.int .i64 0) (.int .i64 0) (.int .i64 0))
    clear b2 hB
    go_wp2_with fail
    clear y0 y1 y2
    obtain ⟨y0, y1, y2, -⟩ := HBB.out
    refine bodyPost_ret (v := .tuple #[.agg #[.int .i64 0, .int .i64 0, .int .i64 0], .int .i64 10]) ?_ rfl ⟨by rw [HPP.out, HQQ.out, HRR.out], HBL.out⟩
    simp [results, Try.results12, go_sem, y0, y1, y2]
end Go.Proofs.Ytlhbkjgddpelgaa
/- The walk of WaveCells. -/
namespace Go.Proofs.Ytlhbkjgddpelgaa
open Go.RowKit Go.Great
theorem wrongI {n : Nat} {X : Nat → Int} (a : Int) (h : recE n X ≠ 0) : idE n X a = recE n X ∧ idP n X a = 0 ∧ idI n X a = 0 ∧ idC n X a = 0 := by
  have e : idE n X a = recE n X := if_neg h
  have e0 : ¬ idE n X a = 0 := by rw [e]; exact h
  exact ⟨e, if_neg e0, if_neg e0, if_neg e0⟩
theorem wrongS {n : Nat} {X : Nat → Int} (h : recE n X ≠ 0) : seE n X = recE n X ∧ seP n X = 0 ∧ seI n X = 0 ∧ seC n X = 0 := by
  have e : seE n X = recE n X := if_neg h
  have e0 : ¬ seE n X = 0 := by rw [e]; exact h
  exact ⟨e, if_neg e0, if_neg e0, if_neg e0⟩
set_option maxHeartbeats 16000000 in
set_option maxRecDepth 100000 in
theorem waveCells_walk (A : Option Addr) (n c : Nat) (X : Nat → Int) (a : Int) (w : World) (hn9 : n ≤ 9223372036854775807) (hnc : n ≤ c) (hc9 : c ≤ 9223372036854775807) (hI : IntsAt w 0 A n X) :
    Calls Try.prog 3 #[.slice A n c, .int .i64 a] w fun e w' => e = .returned (.bool true) ∧ Below w.heap.size w w' := by
  have HAW := hide (fun W => awake_any W)
  have HI := hide hI
  clear hI
  by_cases hbig : 122 < n
  · have t1 : (n : Int) > 66 := by omega
    have t2 : ¬ (n : Int) ≤ 120 := by omega
    have t3 : (n : Int) > 122 := by omega
    clear hbig
    go_enter Try.func3, Try.ntmps3
    go_wp2_with fail
    refine (HAW.out _).mono ?_
    rintro e w1 ⟨rfl, hb1⟩
    go_wp2_with fail
    go_ret
    exact ⟨rfl, hb1⟩
  by_cases hmid : 66 < n ∧ n ≤ 120
  · have t1 : (n : Int) > 66 := by omega
    have t2 : (n : Int) ≤ 120 := by omega
    clear hbig hmid
    go_enter Try.func3, Try.ntmps3
    go_wp2_with fail
    refine (HAW.out _).mono ?_
    rintro e w1 ⟨rfl, hb1⟩
    go_wp2_with fail
    go_ret
    exact ⟨rfl, hb1⟩
  have hn : n ≤ 100000 := by omega
  have t3 : ¬ (n : Int) > 122 := by omega
  have HCP := hide (fun W (h : IntsAt W 0 A n X) => copyInts_own A n c X W (by omega) h)
  have HIA := hide (fun D d W (h1 : n ≤ d) (h2 : d ≤ 9223372036854775807) (h : IntsAt W 0 D n X) => IdentityAt_any D n d X a W hn h1 h2 h)
  have HSE := hide (fun D d W (h1 : n ≤ d) (h2 : d ≤ 9223372036854775807) (h : IntsAt W 0 D n X) => Search_any D n d X W hn h1 h2 h)
  have HVE := hide (fun W (h : IntsAt W 0 A n X) => valuesErr_any A n c X W h hn)
  rw [← recE_vE] at HVE
  have hc3 : n ≤ 66 ∨ 120 < n := by omega
  by_cases hr : recE n X = 0
  · have HIR := hide (fun W (h : IntsAt W 0 A n X) => IdentityAtR_any A n c X a W hr hnc hc9 h)
    have HSR := hide (fun W (h : IntsAt W 0 A n X) => SearchR_any A n c X W hr hnc hc9 h)
    rw [hr] at HVE
    generalize idP n X a = vp at *
    generalize idI n X a = vi at *
    generalize idC n X a = vc at *
    generalize idE n X a = ve at *
    generalize seP n X = up at *
    generalize seI n X = ui at *
    generalize seC n X = uc at *
    generalize seE n X = ue at *
    rcases hc3 with h66 | h66
    · have t1 : ¬ (n : Int) > 66 := by omega
      clear h66 hr hbig hmid hn
      go_enter Try.func3, Try.ntmps3
      go_wp2_with fail
      refine (HAW.out _).mono ?_
      rintro e w1 ⟨rfl, hB1⟩
      go_wp2_with fail
      refine (HCP.out _ (HI.out.below hB1)).mono ?_
      rintro e w2 ⟨v2, rfl, ho2, hb2⟩
      obtain ⟨D, d, rfl, hd, hD⟩ := ho2.form
      have hd9 := ho2.cap_any.2
      have hB2 := hB1.trans (hb2.mono hB1.size)
      clear hb2 hB1 ho2
      go_wp2_with fail
      refine (HIA.out D d _ hd hd9 (hD.weak (Nat.zero_le _))).mono ?_
      rintro e w3 ⟨rfl, hb3⟩
      have hB3 := hB2.trans (hb3.mono hB2.size)
      clear hb3 hB2 hD hd hd9
      go_upto_region 6 with fail
      obtain ⟨W5, hW5⟩ : ∃ q : World, q = w3.alloc (.cells #[.int .i64 vp, .int .i64 vi, .int .i64 vc] 25) := ⟨_, rfl⟩
      try rw [← hW5]
      have b5 : Box W5 w3.heap.size 25 #[.int .i64 vp, .int .i64 vi, .int .i64 vc] := by rw [hW5]; exact Box.made rfl
      have hB5 : Below w.heap.size w W5 := by rw [hW5]; exact hB3.alloc hB3.size _
      obtain ⟨g5, hg5⟩ : ∃ g, w3.heap.size = g := ⟨_, rfl⟩
      try rw [hg5]
      rw [hg5] at b5
      clear hW5 hg5 hB3
      go_wp2_with fail
      refine (HCP.out _ (HI.out.below hB5)).mono ?_
      rintro e w6 ⟨v6, rfl, ho6, hb6⟩
      obtain ⟨D, d, rfl, hd, hD⟩ := ho6.form
      have hd9 := ho6.cap_any.2
      have b56 := b5.below hb6
      have hB6 := hB5.trans (hb6.mono hB5.size)
      clear hb6 hB5 ho6 b5
      go_wp2_with fail
      refine (HSE.out D d _ hd hd9 (hD.weak (Nat.zero_le _))).mono ?_
      rintro e w7 ⟨rfl, hb7⟩
      have b57 := b56.below hb7
      have hB7 := hB6.trans (hb7.mono hB6.size)
      clear hb7 hB6 hD hd hd9 b56
      go_upto_region 7 with fail
      obtain ⟨W7, hW7⟩ : ∃ q : World, q = w7.alloc (.cells #[.int .i64 up, .int .i64 ui, .int .i64 uc] 25) := ⟨_, rfl⟩
      try rw [← hW7]
      have b7 : Box W7 w7.heap.size 25 #[.int .i64 up, .int .i64 ui, .int .i64 uc] := by rw [hW7]; exact Box.made rfl
      have b58 : Box W7 g5 25 #[.int .i64 vp, .int .i64 vi, .int .i64 vc] := by rw [hW7]; exact b57.alloc _
      have hB8 : Below w.heap.size w W7 := by rw [hW7]; exact hB7.alloc hB7.size _
      obtain ⟨g7, hg7⟩ : ∃ g, w7.heap.size = g := ⟨_, rfl⟩
      try rw [hg7]
      rw [hg7] at b7
      have HI7 := hide (HI.out.below hB8)
      clear hW7 hg7 hB7 b57
      go_wp2_with (go_at_call 10; refine (HVE.out _ HI7.out).mono ?_; rintro e w' ⟨rfl, rfl⟩)
      refine (HIR.out _ HI7.out).mono ?_
      rintro e w8 ⟨rfl, hb8⟩
      have b59 := b58.below hb8
      have b79 := b7.below hb8
      have hB9 := hB8.trans (hb8.mono hB8.size)
      clear hb8 hB8 b58 b7 HI7
      go_upto_region 11 with fail
      obtain ⟨W10, hW10⟩ : ∃ q : World, q = w8.alloc (.cells #[.int .i64 vp, .int .i64 vi, .int .i64 vc] 25) := ⟨_, rfl⟩
      try rw [← hW10]
      have b10 : Box W10 w8.heap.size 25 #[.int .i64 vp, .int .i64 vi, .int .i64 vc] := by rw [hW10]; exact Box.made rfl
      have b5 : Box W10 g5 25 #[.int .i64 vp, .int .i64 vi, .int .i64 vc] := by rw [hW10]; exact b59.alloc _
      have b7 : Box W10 g7 25 #[.int .i64 up, .int .i64 ui, .int .i64 uc] := by rw [hW10]; exact b79.alloc _
      have hB10 : Below w.heap.size w W10 := by rw [hW10]; exact hB9.alloc hB9.size _
      obtain ⟨g10, hg10⟩ : ∃ g, w8.heap.size = g := ⟨_, rfl⟩
      try rw [hg10]
      rw [hg10] at b10
      have HI10 := hide (HI.out.below hB10)
      clear hW10 hg10 hB9 b59 b79
      obtain ⟨x0, x1, x2, -, -, -, hlx⟩ := b5.cellsT
      obtain ⟨y0, y1, y2, -, -, -, hly⟩ := b10.cellsT
      go_wp2_with fail
      refine (HSR.out _ HI10.out).mono ?_
      rintro e w11 ⟨rfl, hb11⟩
      have b711 := b7.below hb11
      have hB11 := hB10.trans (hb11.mono hB10.size)
      clear hb11 hB10 b7 b5 b10 HI10 x0 x1 x2 y0 y1 y2 hlx hly
      go_upto_region 14 with fail
      obtain ⟨W12, hW12⟩ : ∃ q : World, q = w11.alloc (.cells #[.int .i64 up, .int .i64 ui, .int .i64 uc] 25) := ⟨_, rfl⟩
      try rw [← hW12]
      have b12 : Box W12 w11.heap.size 25 #[.int .i64 up, .int .i64 ui, .int .i64 uc] := by rw [hW12]; exact Box.made rfl
      have b7 : Box W12 g7 25 #[.int .i64 up, .int .i64 ui, .int .i64 uc] := by rw [hW12]; exact b711.alloc _
      have hB12 : Below w.heap.size w W12 := by rw [hW12]; exact hB11.alloc hB11.size _
      obtain ⟨g12, hg12⟩ : ∃ g, w11.heap.size = g := ⟨_, rfl⟩
      try rw [hg12]
      rw [hg12] at b12
      clear hW12 hg12 hB11 b711
      obtain ⟨x0, x1, x2, -, -, -, hlx⟩ := b12.cellsT
      obtain ⟨y0, y1, y2, -, -, -, hly⟩ := b7.cellsT
      go_wp2_with fail
      go_ret
      exact ⟨rfl, hB12⟩
    · have t1 : (n : Int) > 66 := by omega
      have t2 : ¬ (n : Int) ≤ 120 := by omega
      clear h66 hr hbig hmid hn
      go_enter Try.func3, Try.ntmps3
      go_wp2_with fail
      refine (HAW.out _).mono ?_
      rintro e w1 ⟨rfl, hB1⟩
      go_wp2_with fail
      refine (HCP.out _ (HI.out.below hB1)).mono ?_
      rintro e w2 ⟨v2, rfl, ho2, hb2⟩
      obtain ⟨D, d, rfl, hd, hD⟩ := ho2.form
      have hd9 := ho2.cap_any.2
      have hB2 := hB1.trans (hb2.mono hB1.size)
      clear hb2 hB1 ho2
      go_wp2_with fail
      refine (HIA.out D d _ hd hd9 (hD.weak (Nat.zero_le _))).mono ?_
      rintro e w3 ⟨rfl, hb3⟩
      have hB3 := hB2.trans (hb3.mono hB2.size)
      clear hb3 hB2 hD hd hd9
      go_upto_region 6 with fail
      obtain ⟨W5, hW5⟩ : ∃ q : World, q = w3.alloc (.cells #[.int .i64 vp, .int .i64 vi, .int .i64 vc] 25) := ⟨_, rfl⟩
      try rw [← hW5]
      have b5 : Box W5 w3.heap.size 25 #[.int .i64 vp, .int .i64 vi, .int .i64 vc] := by rw [hW5]; exact Box.made rfl
      have hB5 : Below w.heap.size w W5 := by rw [hW5]; exact hB3.alloc hB3.size _
      obtain ⟨g5, hg5⟩ : ∃ g, w3.heap.size = g := ⟨_, rfl⟩
      try rw [hg5]
      rw [hg5] at b5
      clear hW5 hg5 hB3
      go_wp2_with fail
      refine (HCP.out _ (HI.out.below hB5)).mono ?_
      rintro e w6 ⟨v6, rfl, ho6, hb6⟩
      obtain ⟨D, d, rfl, hd, hD⟩ := ho6.form
      have hd9 := ho6.cap_any.2
      have b56 := b5.below hb6
      have hB6 := hB5.trans (hb6.mono hB5.size)
      clear hb6 hB5 ho6 b5
      go_wp2_with fail
      refine (HSE.out D d _ hd hd9 (hD.weak (Nat.zero_le _))).mono ?_
      rintro e w7 ⟨rfl, hb7⟩
      have b57 := b56.below hb7
      have hB7 := hB6.trans (hb7.mono hB6.size)
      clear hb7 hB6 hD hd hd9 b56
      go_upto_region 7 with fail
      obtain ⟨W7, hW7⟩ : ∃ q : World, q = w7.alloc (.cells #[.int .i64 up, .int .i64 ui, .int .i64 uc] 25) := ⟨_, rfl⟩
      try rw [← hW7]
      have b7 : Box W7 w7.heap.size 25 #[.int .i64 up, .int .i64 ui, .int .i64 uc] := by rw [hW7]; exact Box.made rfl
      have b58 : Box W7 g5 25 #[.int .i64 vp, .int .i64 vi, .int .i64 vc] := by rw [hW7]; exact b57.alloc _
      have hB8 : Below w.heap.size w W7 := by rw [hW7]; exact hB7.alloc hB7.size _
      obtain ⟨g7, hg7⟩ : ∃ g, w7.heap.size = g := ⟨_, rfl⟩
      try rw [hg7]
      rw [hg7] at b7
      have HI7 := hide (HI.out.below hB8)
      clear hW7 hg7 hB7 b57
      go_wp2_with (go_at_call 10; refine (HVE.out _ HI7.out).mono ?_; rintro e w' ⟨rfl, rfl⟩)
      refine (HIR.out _ HI7.out).mono ?_
      rintro e w8 ⟨rfl, hb8⟩
      have b59 := b58.below hb8
      have b79 := b7.below hb8
      have hB9 := hB8.trans (hb8.mono hB8.size)
      clear hb8 hB8 b58 b7 HI7
      go_upto_region 11 with fail
      obtain ⟨W10, hW10⟩ : ∃ q : World, q = w8.alloc (.cells #[.int .i64 vp, .int .i64 vi, .int .i64 vc] 25) := ⟨_, rfl⟩
      try rw [← hW10]
      have b10 : Box W10 w8.heap.size 25 #[.int .i64 vp, .int .i64 vi, .int .i64 vc] := by rw [hW10]; exact Box.made rfl
      have b5 : Box W10 g5 25 #[.int .i64 vp, .int .i64 vi, .int .i64 vc] := by rw [hW10]; exact b59.alloc _
      have b7 : Box W10 g7 25 #[.int .i64 up, .int .i64 ui, .int .i64 uc] := by rw [hW10]; exact b79.alloc _
      have hB10 : Below w.heap.size w W10 := by rw [hW10]; exact hB9.alloc hB9.size _
      obtain ⟨g10, hg10⟩ : ∃ g, w8.heap.size = g := ⟨_, rfl⟩
      try rw [hg10]
      rw [hg10] at b10
      have HI10 := hide (HI.out.below hB10)
      clear hW10 hg10 hB9 b59 b79
      obtain ⟨x0, x1, x2, -, -, -, hlx⟩ := b5.cellsT
      obtain ⟨y0, y1, y2, -, -, -, hly⟩ := b10.cellsT
      go_wp2_with fail
      refine (HSR.out _ HI10.out).mono ?_
      rintro e w11 ⟨rfl, hb11⟩
      have b711 := b7.below hb11
      have hB11 := hB10.trans (hb11.mono hB10.size)
      clear hb11 hB10 b7 b5 b10 HI10 x0 x1 x2 y0 y1 y2 hlx hly
      go_upto_region 14 with fail
      obtain ⟨W12, hW12⟩ : ∃ q : World, q = w11.alloc (.cells #[.int .i64 up, .int .i64 ui, .int .i64 uc] 25) := ⟨_, rfl⟩
      try rw [← hW12]
      have b12 : Box W12 w11.heap.size 25 #[.int .i64 up, .int .i64 ui, .int .i64 uc] := by rw [hW12]; exact Box.made rfl
      have b7 : Box W12 g7 25 #[.int .i64 up, .int .i64 ui, .int .i64 uc] := by rw [hW12]; exact b711.alloc _
      have hB12 : Below w.heap.size w W12 := by rw [hW12]; exact hB11.alloc hB11.size _
      obtain ⟨g12, hg12⟩ : ∃ g, w11.heap.size = g := ⟨_, rfl⟩
      try rw [hg12]
      rw [hg12] at b12
      clear hW12 hg12 hB11 b711
      obtain ⟨x0, x1, x2, -, -, -, hlx⟩ := b12.cellsT
      obtain ⟨y0, y1, y2, -, -, -, hly⟩ := b7.cellsT
      go_wp2_with fail
      go_ret
      exact ⟨rfl, hB12⟩
  · obtain ⟨e1, e2, e3, e4⟩ := wrongI a hr
    obtain ⟨e5, e6, e7, e8⟩ := wrongS hr
    rw [e1, e2, e3, e4] at HIA
    rw [e5, e6, e7, e8] at HSE
    obtain ⟨r, hrr⟩ : ∃ z, recE n X = z := ⟨_, rfl⟩
    simp only [hrr] at HVE HIA HSE hr
    have tr : (r != 0) = true := by simpa using hr
    rcases hc3 with h66 | h66
    · have t1 : ¬ (n : Int) > 66 := by omega
      clear h66 hr hbig hmid hn e1 e2 e3 e4 e5 e6 e7 e8 hrr
      go_enter Try.func3, Try.ntmps3
      go_wp2_with fail
      refine (HAW.out _).mono ?_
      rintro e w1 ⟨rfl, hB1⟩
      go_wp2_with fail
      refine (HCP.out _ (HI.out.below hB1)).mono ?_
      rintro e w2 ⟨v2, rfl, ho2, hb2⟩
      obtain ⟨D, d, rfl, hd, hD⟩ := ho2.form
      have hd9 := ho2.cap_any.2
      have hB2 := hB1.trans (hb2.mono hB1.size)
      clear hb2 hB1 ho2
      go_wp2_with fail
      refine (HIA.out D d _ hd hd9 (hD.weak (Nat.zero_le _))).mono ?_
      rintro e w3 ⟨rfl, hb3⟩
      have hB3 := hB2.trans (hb3.mono hB2.size)
      clear hb3 hB2 hD hd hd9
      go_upto_region 6 with fail
      obtain ⟨W5, hW5⟩ : ∃ q : World, q = w3.alloc (.cells #[.int .i64 0, .int .i64 0, .int .i64 0] 25) := ⟨_, rfl⟩
      try rw [← hW5]
      have b5 : Box W5 w3.heap.size 25 #[.int .i64 0, .int .i64 0, .int .i64 0] := by rw [hW5]; exact Box.made rfl
      have hB5 : Below w.heap.size w W5 := by rw [hW5]; exact hB3.alloc hB3.size _
      obtain ⟨g5, hg5⟩ : ∃ g, w3.heap.size = g := ⟨_, rfl⟩
      try rw [hg5]
      rw [hg5] at b5
      clear hW5 hg5 hB3
      go_wp2_with fail
      refine (HCP.out _ (HI.out.below hB5)).mono ?_
      rintro e w6 ⟨v6, rfl, ho6, hb6⟩
      obtain ⟨D, d, rfl, hd, hD⟩ := ho6.form
      have hd9 := ho6.cap_any.2
      have b56 := b5.below hb6
      have hB6 := hB5.trans (hb6.mono hB5.size)
      clear hb6 hB5 ho6 b5
      go_wp2_with fail
      refine (HSE.out D d _ hd hd9 (hD.weak (Nat.zero_le _))).mono ?_
      rintro e w7 ⟨rfl, hb7⟩
      have b57 := b56.below hb7
      have hB7 := hB6.trans (hb7.mono hB6.size)
      clear hb7 hB6 hD hd hd9 b56
      go_upto_region 7 with fail
      obtain ⟨W7, hW7⟩ : ∃ q : World, q = w7.alloc (.cells #[.int .i64 0, .int .i64 0, .int .i64 0] 25) := ⟨_, rfl⟩
      try rw [← hW7]
      have b7 : Box W7 w7.heap.size 25 #[.int .i64 0, .int .i64 0, .int .i64 0] := by rw [hW7]; exact Box.made rfl
      have b58 : Box W7 g5 25 #[.int .i64 0, .int .i64 0, .int .i64 0] := by rw [hW7]; exact b57.alloc _
      have hB8 : Below w.heap.size w W7 := by rw [hW7]; exact hB7.alloc hB7.size _
      obtain ⟨g7, hg7⟩ : ∃ g, w7.heap.size = g := ⟨_, rfl⟩
      try rw [hg7]
      rw [hg7] at b7
      have HI7 := hide (HI.out.below hB8)
      clear hW7 hg7 hB7 b57
      obtain ⟨x0, x1, x2, -, -, -, hlx⟩ := b58.cellsT
      obtain ⟨y0, y1, y2, -, -, -, hly⟩ := b7.cellsT
      go_wp2_with (go_at_call 10; refine (HVE.out _ HI7.out).mono ?_; rintro e w' ⟨rfl, rfl⟩)
      go_ret
      exact ⟨rfl, hB8⟩
    · have t1 : (n : Int) > 66 := by omega
      have t2 : ¬ (n : Int) ≤ 120 := by omega
      clear h66 hr hbig hmid hn e1 e2 e3 e4 e5 e6 e7 e8 hrr
      go_enter Try.func3, Try.ntmps3
      go_wp2_with fail
      refine (HAW.out _).mono ?_
      rintro e w1 ⟨rfl, hB1⟩
      go_wp2_with fail
      refine (HCP.out _ (HI.out.below hB1)).mono ?_
      rintro e w2 ⟨v2, rfl, ho2, hb2⟩
      obtain ⟨D, d, rfl, hd, hD⟩ := ho2.form
      have hd9 := ho2.cap_any.2
      have hB2 := hB1.trans (hb2.mono hB1.size)
      clear hb2 hB1 ho2
      go_wp2_with fail
      refine (HIA.out D d _ hd hd9 (hD.weak (Nat.zero_le _))).mono ?_
      rintro e w3 ⟨rfl, hb3⟩
      have hB3 := hB2.trans (hb3.mono hB2.size)
      clear hb3 hB2 hD hd hd9
      go_upto_region 6 with fail
      obtain ⟨W5, hW5⟩ : ∃ q : World, q = w3.alloc (.cells #[.int .i64 0, .int .i64 0, .int .i64 0] 25) := ⟨_, rfl⟩
      try rw [← hW5]
      have b5 : Box W5 w3.heap.size 25 #[.int .i64 0, .int .i64 0, .int .i64 0] := by rw [hW5]; exact Box.made rfl
      have hB5 : Below w.heap.size w W5 := by rw [hW5]; exact hB3.alloc hB3.size _
      obtain ⟨g5, hg5⟩ : ∃ g, w3.heap.size = g := ⟨_, rfl⟩
      try rw [hg5]
      rw [hg5] at b5
      clear hW5 hg5 hB3
      go_wp2_with fail
      refine (HCP.out _ (HI.out.below hB5)).mono ?_
      rintro e w6 ⟨v6, rfl, ho6, hb6⟩
      obtain ⟨D, d, rfl, hd, hD⟩ := ho6.form
      have hd9 := ho6.cap_any.2
      have b56 := b5.below hb6
      have hB6 := hB5.trans (hb6.mono hB5.size)
      clear hb6 hB5 ho6 b5
      go_wp2_with fail
      refine (HSE.out D d _ hd hd9 (hD.weak (Nat.zero_le _))).mono ?_
      rintro e w7 ⟨rfl, hb7⟩
      have b57 := b56.below hb7
      have hB7 := hB6.trans (hb7.mono hB6.size)
      clear hb7 hB6 hD hd hd9 b56
      go_upto_region 7 with fail
      obtain ⟨W7, hW7⟩ : ∃ q : World, q = w7.alloc (.cells #[.int .i64 0, .int .i64 0, .int .i64 0] 25) := ⟨_, rfl⟩
      try rw [← hW7]
      have b7 : Box W7 w7.heap.size 25 #[.int .i64 0, .int .i64 0, .int .i64 0] := by rw [hW7]; exact Box.made rfl
      have b58 : Box W7 g5 25 #[.int .i64 0, .int .i64 0, .int .i64 0] := by rw [hW7]; exact b57.alloc _
      have hB8 : Below w.heap.size w W7 := by rw [hW7]; exact hB7.alloc hB7.size _
      obtain ⟨g7, hg7⟩ : ∃ g, w7.heap.size = g := ⟨_, rfl⟩
      try rw [hg7]
      rw [hg7] at b7
      have HI7 := hide (HI.out.below hB8)
      clear hW7 hg7 hB7 b57
      obtain ⟨x0, x1, x2, -, -, -, hlx⟩ := b58.cellsT
      obtain ⟨y0, y1, y2, -, -, -, hly⟩ := b7.cellsT
      go_wp2_with (go_at_call 10; refine (HVE.out _ HI7.out).mono ?_; rintro e w' ⟨rfl, rfl⟩)
      go_ret
      exact ⟨rfl, hB8⟩
end Go.Proofs.Ytlhbkjgddpelgaa
