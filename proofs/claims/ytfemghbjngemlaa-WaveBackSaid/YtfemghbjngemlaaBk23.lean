/- Lemmas: Ax, Ub, Az. -/
import Derived.Test.YtfemghbjngemlaaBk02
import Derived.Test.YtfemghbjngemlaaBk03
import Derived.Test.YtfemghbjngemlaaBk05
import Derived.Test.YtfemghbjngemlaaBk07
import Derived.Test.YtfemghbjngemlaaBk10
import Derived.Test.YtfemghbjngemlaaBk22
set_option linter.unusedVariables false
set_option linter.unusedSimpArgs false
/- SymbolOf of the code and of the reference. -/
namespace Go.Proofs.Ytfemghbjngemlaa
open Go.RowKit Go.Great
def symR (n : Nat) (F : Nat → Num) (g s : Int) : Int := if twoE (sampE n F) (unI (withinB g 0 7) 2) = 0 then (if withinB s 0 (((n / (8 + g.toNat) : Nat) : Int) - 1) = true then 0 else 6) else twoE (sampE n F) (unI (withinB g 0 7) 2)
theorem two_zero {a b : Int} (h : twoE a b = 0) : a = 0 ∧ b = 0 := by
  unfold twoE at h
  by_cases h1 : a = 0
  · rw [if_pos h1] at h; exact ⟨h1, h⟩
  · rw [if_neg h1] at h; exact absurd h h1
theorem sampE_zero {n : Nat} {F : Nat → Num} (h : sampE n F = 0) : n ≤ 120 ∧ ∀ j, j < n → (F j).Within 1000000000 := by
  unfold sampE at h
  by_cases h3 : 120 < n
  · rw [if_pos h3] at h; exact absurd h (by decide)
  · rw [if_neg h3] at h; exact ⟨by omega, numsE_zero h⟩
theorem NumsAt.range {w : World} {lo n b o d : Nat} {F : Nat → Num} (h : NumsAt w lo (some ⟨b, o, none⟩) n F) (hd : d + 8 ≤ n) : w.rangeAt b (o + d * 4) ((List.range 32).map (numC fun j => F (d + j))) := fun j v hv => by
  rw [List.getElem?_map] at hv
  by_cases hj : j < 32
  · rw [List.getElem?_range hj] at hv
    obtain ⟨b', o', e, hc⟩ := h.part (j := d * 4 + j) (by omega)
    injection e with e
    injection e with e1 e2
    subst e1
    subst e2
    rw [← Nat.add_assoc, show (d * 4 + j) / 4 = d + j / 4 by omega, show (d * 4 + j) % 4 = j % 4 by omega] at hc
    rw [hc]
    exact hv
  · rw [List.getElem?_eq_none (by simp; omega)] at hv
    cases hv
theorem wpList_loadMid8 {ops : Array Oper} {rest : List Oper} {op : Oper} {a : Act} {w : World} {Q : Exit → Act → World → Prop} (hw : Region.wanted op (yielded ops a.tmps) = true) (x : Operand) (ho : op.op = .load 27 x)
    (b o lo n d : Nat) (F : Nat → Num) (hx : a.eval x = .pointer (some ⟨b, o + d * 4, none⟩)) (hr : NumsAt w lo (some ⟨b, o, none⟩) n F) (hd : d + 8 ≤ n)
    (h : wpList Try.prog ops Q rest (a.put op.dst (.agg (arr8 fun j => F (d + j)))) w) : wpList Try.prog ops Q (op :: rest) a w :=
  wpList_step fun K hK => by
    rw [if_pos hw]
    exact wp_load_mid (P := Try.prog) 27 x ho b (o + d * 4) hx ((List.range 32).map (numC fun j => F (d + j))) _ (hr.range hd) Try.underlying27 rfl (by rw [info8]; simp) (hK _ _ h)
theorem sym_fits {n m k : Nat} (hk : (k : Int) ≤ ((n / m : Nat) : Int) - 1) : (k + 1) * m ≤ n := by
  have h1 : k + 1 ≤ n / m := by omega
  exact Nat.le_trans (Nat.mul_le_mul_right m h1) (Nat.div_mul_le_self n m)
set_option maxHeartbeats 8000000 in
set_option maxRecDepth 100000 in
theorem SymbolOf_any (A : Option Addr) (n c : Nat) (F : Nat → Num) (g s : Int) (w : World) (hn : n ≤ 100000) (hc : n ≤ c) (hI : NumsAt w 0 A n F) :
    Calls Try.prog 26 #[.slice A n c, .int .i64 g, .int .i64 s] w fun e w' => e = .returned (.tuple #[.agg (arr8 fun j => if symR n F g s = 0 then F ((s * (8 + g) + g).toNat + j) else Num.zero), .int .i64 (symR n F g s)]) ∧ Below w.heap.size w w' := by
  have HE := hide (firstE_two (sampE n F) (unI (withinB g 0 7) 2))
  have HSE := hide (fun W (h : NumsAt W 0 A n F) => samplesError_any A n c F W hn h)
  have HGE := hide (fun W => guardError_any g W)
  have HZ0 := hide (fun (h : twoE (sampE n F) (unI (withinB g 0 7) 2) = 0) => (show n ≤ 120 ∧ 0 ≤ g ∧ g ≤ 7 from ⟨(sampE_zero (two_zero h).1).1, withinB_iff.1 (unI_zero (by decide) (two_zero h).2)⟩))
  obtain ⟨V, hV⟩ : ∃ z, symR n F g s = z := ⟨_, rfl⟩
  have HV := hide hV
  rw [hV]
  clear hV
  unfold symR at HV
  generalize unI (withinB g 0 7) 2 = e2 at HE HGE HZ0 HV
  generalize sampE n F = e1 at HE HSE HZ0 HV
  obtain ⟨E, hE⟩ : ∃ z, twoE e1 e2 = z := ⟨_, rfl⟩
  rw [hE] at HE HZ0 HV
  clear hE
  have HI := hide hI
  clear hI
  obtain ⟨G, hG⟩ : ∃ z : Nat → Num, (fun j => if V = 0 then F ((s * (8 + g) + g).toNat + j) else Num.zero) = z := ⟨_, rfl⟩
  rw [hG]
  have HG := hide hG
  clear hG
  go_enter Try.func26, Try.ntmps26
  go_upto_region 1 with (refine wpList_allocTo rfl (some 6) rfl (.pointer (some ⟨w.heap.size, 0, none⟩)) (.cells (arr8 fun _ => Num.zero) 27) (by kernel_rfl) ?_)
  obtain ⟨W1, hW1⟩ : ∃ q : World, q = w.alloc (.cells (arr8 fun _ => Num.zero) 27) := ⟨_, rfl⟩
  rw [← hW1]
  have HZ := hide (show ArrNums W1 w.heap.size (fun _ => Num.zero) by rw [hW1]; exact arrNums_alloc w _ _ rfl)
  have hB1 : Below w.heap.size w W1 := by rw [hW1]; (repeat (first | (with_reducible exact Below.refl _ _) | (with_reducible refine Go.below_drewN ?_ _) | (with_reducible refine Below.drew ?_) | (with_reducible refine Below.alloc ?_ (by first | exact Nat.le_refl _ | (simp; done) | (simp; omega) | omega) _) | (with_reducible refine Below.setCell ?_ (by first | exact Nat.le_refl _ | (simp; done) | (simp; omega) | omega) _)))
  clear hW1
  go_upto_region 2 with (first | (go_at_call 65; refine (HSE.out _ (HI.out.below hB1)).mono ?_; rintro e w1 ⟨rfl, hb1⟩) | (go_at_call 64; refine (HGE.out _).mono ?_; rintro e w' ⟨rfl, rfl⟩) | (go_at_call 60; refine (firstError_laid [e1, e2] 2 _ _ rfl (by decide)).mono ?_; rintro e w2 ⟨rfl, hw2⟩))
  rw [HE.out]
  have hc2 : Below W1.heap.size W1 w2 := by rw [← hw2]; exact hb1.alloc hb1.size _
  have hB2 := hB1.trans (hc2.mono hB1.size)
  have HZ2 := hide (HZ.out.below hc2)
  clear hw2 hb1 hc2 hB1 HSE HGE HE HZ
  by_cases hE : E = 0
  case neg =>
    have t1 : (E != 0) = true := by simpa using hE
    have hVE : V = E := by rw [← HV.out, if_neg hE]
    subst hVE
    have hG : G = fun _ => Num.zero := HG.out.symm.trans (funext fun n => if_neg hE)
    subst hG
    clear hE HG HV HZ0
    go_upto_region 3 with fail
    have hz8 : ∀ a : Act, (execOp a.eval (⟨some 19, .build 27 #[], 27, "", #[], none⟩ : Oper)).run Try.prog w2 = .ok (.value (.agg (arr8 fun _ => Num.zero))) w2 := fun a => by kernel_rfl
    go_wp2_with (refine wpList_store8 rfl (.tmp 6) (.tmp 19) rfl w.heap.size (fun _ => Num.zero) (fun _ => Num.zero) rfl (by first | rfl | kernel_rfl) HZ2.out ?_; intro W9 r9 o9)
    refine bodyPost_ret (v := .tuple #[.agg (arr8 fun _ => Num.zero), .int .i64 V]) (result8 rfl _ rfl rfl r9) rfl ⟨rfl, ?_⟩
    exact hB2.trans (o9.to_below (Nat.le_refl _) hB2.size)
  case pos =>
  subst hE
  obtain ⟨hn120, hg0, hg7⟩ := HZ0.out rfl
  obtain ⟨k, rfl⟩ : ∃ k : Nat, g = (k : Int) := ⟨g.toNat, by omega⟩
  have hVV := HV.out
  rw [if_pos rfl, show ((k : Int)).toNat = k from rfl] at hVV
  clear HZ0 HV
  obtain ⟨m, hm⟩ : ∃ m, 8 + k = m := ⟨_, rfl⟩
  have q1 : IntKind.i64.wrap ((k : Int) + 8) = (m : Int) := by rw [show (k : Int) + 8 = (m : Int) by omega]; exact IntWalk.i64_in _ (by omega)
  have q0 : ¬ (m : Int) = 0 := by omega
  have hq120 : n / m ≤ 120 := Nat.le_trans (Nat.div_le_self n m) hn120
  rw [hm] at hVV
  obtain ⟨Q, hQ⟩ : ∃ z, n / m = z := ⟨_, rfl⟩
  have hQ120 : Q ≤ 120 := by omega
  have q2 : (n : Int).tdiv (m : Int) = (Q : Int) := by rw [← hQ]; exact (Int.ofNat_tdiv n m).symm
  have q3 : IntKind.i64.wrap (Q : Int) = (Q : Int) := IntWalk.i64_in _ (by omega)
  have q4 : IntKind.i64.wrap ((Q : Int) - 1) = (Q : Int) - 1 := IntWalk.i64_in _ (by omega)
  have HFT := hide (fun (j : Nat) (h : (j : Int) ≤ (Q : Int) - 1) => (sym_fits (n := n) (m := m) (k := j) (by rw [hQ]; exact h)))
  rw [hQ] at hVV
  clear hQ
  go_upto_if 30 with (go_at_call 66; refine (isWithin_any _ _ _ _).mono ?_; rintro e w' ⟨rfl, rfl⟩)
  by_cases hb : withinB s 0 ((Q : Int) - 1) = true
  case neg =>
    have t1 : withinB s 0 ((Q : Int) - 1) = false := by simpa using hb
    simp only [t1, Bool.not_false]
    rw [if_neg hb] at hVV
    subst hVV
    have hG : G = fun _ => Num.zero := HG.out.symm.trans (funext fun n => if_neg (by decide))
    subst hG
    clear hb HG HFT
    go_upto_region 6 with fail
    have hz8 : ∀ a : Act, (execOp a.eval (⟨some 31, .build 27 #[], 27, "", #[], none⟩ : Oper)).run Try.prog w2 = .ok (.value (.agg (arr8 fun _ => Num.zero))) w2 := fun a => by kernel_rfl
    go_wp2_with (refine wpList_store8 rfl (.tmp 6) (.tmp 31) rfl w.heap.size (fun _ => Num.zero) (fun _ => Num.zero) rfl (by first | rfl | kernel_rfl) HZ2.out ?_; intro W9 r9 o9)
    refine bodyPost_ret (v := .tuple #[.agg (arr8 fun _ => Num.zero), .int .i64 6]) (result8 rfl _ rfl rfl r9) rfl ⟨rfl, ?_⟩
    exact hB2.trans (o9.to_below (Nat.le_refl _) hB2.size)
  case pos =>
  have hbb := withinB_iff.1 hb
  have t1 := hb
  simp only [t1, Bool.not_true]
  rw [if_pos hb] at hVV
  subst hVV
  obtain ⟨j, rfl⟩ : ∃ j : Nat, s = (j : Int) := ⟨s.toNat, by omega⟩
  have hfit := HFT.out j hbb.2
  have hj := hbb.2
  clear HFT hbb hb
  obtain ⟨B, hB⟩ : ∃ z, (j + 1) * m = z := ⟨_, rfl⟩
  rw [hB] at hfit
  have hB8 : 8 ≤ B := by rw [← hB]; exact Nat.le_trans (show 8 ≤ 1 * m by omega) (Nat.mul_le_mul_right m (by omega))
  obtain ⟨D, hD⟩ : ∃ D, D + 8 = B := ⟨B - 8, by omega⟩
  have hjm : ((j : Int) * (8 + (k : Int)) + (k : Int)).toNat = D := by
    have e1 : (j : Int) * (8 + (k : Int)) = ((j * m : Nat) : Int) := by rw [← hm]; push_cast; rfl
    have e2 : (j + 1) * m = j * m + m := Nat.succ_mul j m
    omega
  have hG : (fun q => F (D + q)) = G := (funext fun q => by rw [if_pos rfl, hjm] : (fun q => F (D + q)) = _).trans HG.out
  clear hjm HG
  have p1 : IntKind.i64.wrap ((j : Int) + 1) = ((j + 1 : Nat) : Int) := by rw [show (j : Int) + 1 = ((j + 1 : Nat) : Int) by omega]; exact IntWalk.i64_in _ (by omega)
  obtain ⟨J, hJ⟩ : ∃ z, j + 1 = z := ⟨_, rfl⟩
  rw [hJ] at p1 hB
  have p2 : IntKind.i64.wrap ((J : Int) * (m : Int)) = (B : Int) := by rw [show (J : Int) * (m : Int) = (B : Int) by rw [← hB]; push_cast; rfl]; exact IntWalk.i64_in _ (by omega)
  have p3 : IntKind.i64.wrap ((B : Int) - 8) = (D : Int) := by rw [show (B : Int) - 8 = (D : Int) by omega]; exact IntWalk.i64_in _ (by omega)
  obtain ⟨b, o, rfl, -⟩ := HI.out 0 (by omega)
  have HI2 := hide (HI.out.below hB2)
  have r1 : (0 : Int) ≤ (D : Int) := by omega
  have r2 : (D : Int) ≤ (B : Int) := by omega
  have r3 : (B : Int) ≤ (c : Int) := by omega
  have r4 : ¬ c = D := by omega
  have r5 : B - D = 8 := by omega
  have r6 : ¬ (c : Int) = (D : Int) := by omega
  clear hJ hB
  have hab := fun W => run_arrayAt (P := Try.prog) W 27 26 8 (some ⟨b, o + D * 4, none⟩) 8 (c - D) Try.underlying27 (Nat.le_refl 8)
  go_wp2_with (first | (refine wpList_store8 rfl (.tmp 6) (.tmp 42) rfl w.heap.size (fun _ => Num.zero) G rfl (by rw [← hG]; rfl) HZ2.out ?_; intro W9 r9 o9) | (refine wpList_loadMid8 rfl (.tmp 41) rfl b o 0 n D F rfl HI2.out (by omega) ?_))
  refine bodyPost_ret (v := .tuple #[.agg (arr8 G), .int .i64 0]) (result8 rfl _ rfl rfl r9) rfl ⟨rfl, ?_⟩
  exact hB2.trans (o9.to_below (Nat.le_refl _) hB2.size)
set_option maxHeartbeats 8000000 in
set_option maxRecDepth 100000 in
theorem symbolOfR_any (A : Option Addr) (n c : Nat) (F : Nat → Num) (k : Nat) (s : Int) (w : World) (hn : n ≤ 120) (hk : k ≤ 7) (hI : NumsAt w 0 A n F) :
    Calls Try.prog 33 #[.slice A n c, .int .i64 (k : Int), .int .i64 s] w fun e w' => e = .returned (.tuple #[.agg (arr8 fun j => if withinB s 0 (((n / (8 + k) : Nat) : Int) - 1) = true then F ((s * (8 + (k : Int)) + (k : Int)).toNat + j) else Num.zero), .int .i64 (if withinB s 0 (((n / (8 + k) : Nat) : Int) - 1) = true then 0 else 6)]) ∧ Below w.heap.size w w' := by
  have HI := hide hI
  clear hI
  obtain ⟨G, hG⟩ : ∃ z : Nat → Num, (fun j => if withinB s 0 (((n / (8 + k) : Nat) : Int) - 1) = true then F ((s * (8 + (k : Int)) + (k : Int)).toNat + j) else Num.zero) = z := ⟨_, rfl⟩
  obtain ⟨V, hV⟩ : ∃ z, (if withinB s 0 (((n / (8 + k) : Nat) : Int) - 1) = true then (0 : Int) else 6) = z := ⟨_, rfl⟩
  rw [hG, hV]
  have HG := hide hG
  have HV := hide hV
  clear hG hV
  go_enter Try.func33, Try.ntmps33
  go_upto_region 1 with (refine wpList_allocTo rfl (some 6) rfl (.pointer (some ⟨w.heap.size, 0, none⟩)) (.cells (arr8 fun _ => Num.zero) 27) (by kernel_rfl) ?_)
  obtain ⟨w2, hW1⟩ : ∃ q : World, q = w.alloc (.cells (arr8 fun _ => Num.zero) 27) := ⟨_, rfl⟩
  rw [← hW1]
  have HZ2 := hide (show ArrNums w2 w.heap.size (fun _ => Num.zero) by rw [hW1]; exact arrNums_alloc w _ _ rfl)
  have hB2 : Below w.heap.size w w2 := by rw [hW1]; (repeat (first | (with_reducible exact Below.refl _ _) | (with_reducible refine Go.below_drewN ?_ _) | (with_reducible refine Below.drew ?_) | (with_reducible refine Below.alloc ?_ (by first | exact Nat.le_refl _ | (simp; done) | (simp; omega) | omega) _) | (with_reducible refine Below.setCell ?_ (by first | exact Nat.le_refl _ | (simp; done) | (simp; omega) | omega) _)))
  clear hW1
  obtain ⟨m, hm⟩ : ∃ m, 8 + k = m := ⟨_, rfl⟩
  have q1 : IntKind.i64.wrap ((8 : Int) + (k : Int)) = (m : Int) := by rw [show (8 : Int) + (k : Int) = (m : Int) by omega]; exact IntWalk.i64_in _ (by omega)
  have q0 : ¬ (m : Int) = 0 := by omega
  have hq120 : n / m ≤ 120 := Nat.le_trans (Nat.div_le_self n m) hn
  rw [hm] at HG HV
  obtain ⟨Q, hQ⟩ : ∃ z, n / m = z := ⟨_, rfl⟩
  have hQ120 : Q ≤ 120 := by omega
  have q2 : (n : Int).tdiv (m : Int) = (Q : Int) := by rw [← hQ]; exact (Int.ofNat_tdiv n m).symm
  have q3 : IntKind.i64.wrap (Q : Int) = (Q : Int) := IntWalk.i64_in _ (by omega)
  have q4 : IntKind.i64.wrap ((Q : Int) - 1) = (Q : Int) - 1 := IntWalk.i64_in _ (by omega)
  have HFT := hide (fun (j : Nat) (h : (j : Int) ≤ (Q : Int) - 1) => (sym_fits (n := n) (m := m) (k := j) (by rw [hQ]; exact h)))
  rw [hQ] at HG HV
  clear hQ
  go_upto_if 18 with (go_at_call 57; refine (within_any _ _ _ _).mono ?_; rintro e w' ⟨rfl, rfl⟩)
  by_cases hb : withinB s 0 ((Q : Int) - 1) = true
  case neg =>
    have t1 : withinB s 0 ((Q : Int) - 1) = false := by simpa using hb
    simp only [t1, Bool.not_false]
    have hV : V = 6 := HV.out.symm.trans (if_neg hb)
    subst hV
    have hG : G = fun _ => Num.zero := HG.out.symm.trans (funext fun n => if_neg hb)
    subst hG
    clear hb HG HV HFT
    go_upto_region 2 with fail
    have hz8 : ∀ a : Act, (execOp a.eval (⟨some 19, .build 27 #[], 27, "", #[], none⟩ : Oper)).run Try.prog w2 = .ok (.value (.agg (arr8 fun _ => Num.zero))) w2 := fun a => by kernel_rfl
    go_wp2_with (refine wpList_store8 rfl (.tmp 6) (.tmp 19) rfl w.heap.size (fun _ => Num.zero) (fun _ => Num.zero) rfl (by first | rfl | kernel_rfl) HZ2.out ?_; intro W9 r9 o9)
    refine bodyPost_ret (v := .tuple #[.agg (arr8 fun _ => Num.zero), .int .i64 6]) (result8 rfl _ rfl rfl r9) rfl ⟨rfl, ?_⟩
    exact hB2.trans (o9.to_below (Nat.le_refl _) hB2.size)
  case pos =>
  have hbb := withinB_iff.1 hb
  have t1 := hb
  simp only [t1, Bool.not_true]
  obtain ⟨j, rfl⟩ : ∃ j : Nat, s = (j : Int) := ⟨s.toNat, by omega⟩
  have hfit := HFT.out j hbb.2
  have hV : V = 0 := HV.out.symm.trans (if_pos hb)
  subst hV
  have e2 : (j + 1) * m = j * m + m := Nat.succ_mul j m
  obtain ⟨M, hM⟩ : ∃ z, j * m = z := ⟨_, rfl⟩
  rw [e2, hM] at hfit
  obtain ⟨D, hD⟩ : ∃ D, M + k = D := ⟨_, rfl⟩
  have hjm : ((j : Int) * (8 + (k : Int)) + (k : Int)).toNat = D := by
    have e1 : (j : Int) * (8 + (k : Int)) = ((j * m : Nat) : Int) := by rw [← hm]; push_cast; rfl
    omega
  have hG : G = fun q => F (D + q) := HG.out.symm.trans (funext fun n => by rw [if_pos hb, hjm])
  subst hG
  have hj := hbb.2
  clear HG HV hjm HFT hbb hb
  have p2 : IntKind.i64.wrap ((j : Int) * (m : Int)) = (M : Int) := by rw [show (j : Int) * (m : Int) = (M : Int) by rw [← hM]; push_cast; rfl]; exact IntWalk.i64_in _ (by omega)
  have p3 : IntKind.i64.wrap ((M : Int) + (k : Int)) = (D : Int) := by rw [show (M : Int) + (k : Int) = (D : Int) by omega]; exact IntWalk.i64_in _ (by omega)
  clear hM e2
  obtain ⟨b, o, rfl, -⟩ := HI.out 0 (by omega)
  have hs2 := hB2.size
  go_upto_region 4 with (refine wpList_allocTo rfl (some 8) rfl (.pointer (some ⟨w2.heap.size, 0, none⟩)) (.cells (arr8 fun _ => Num.zero) 27) (by kernel_rfl) ?_)
  obtain ⟨b8, hb8⟩ : ∃ z, w2.heap.size = z := ⟨_, rfl⟩
  obtain ⟨w3, hW3⟩ : ∃ q : World, q = w2.alloc (.cells (arr8 fun _ => Num.zero) 27) := ⟨_, rfl⟩
  rw [← hW3]
  simp only [hb8]
  have a3 : ArrNums w3 b8 (fun _ => Num.zero) := by rw [hW3]; exact arrNums_alloc w2 _ _ hb8.symm
  have z3 : ArrNums w3 w.heap.size (fun _ => Num.zero) := by rw [hW3]; exact HZ2.out.alloc _
  have hB3 : Below w.heap.size w w3 := by rw [hW3]; exact hB2.alloc hB2.size _
  have hw8 : w.heap.size ≤ b8 := by omega
  have hz8 : w.heap.size ≠ b8 := by have := HZ2.out.lt; omega
  clear hW3 hb8 hB2 HZ2 hs2
  go_wp2_with fail
  go_loopw [9] (fun i wr => ∃ q : Nat, q ≤ 8 ∧ i = .int .i64 (q : Int) ∧ ArrNums wr w.heap.size (fun _ => Num.zero) ∧ ArrNums wr b8 (fun j => if j < q then F (D + j) else Num.zero) ∧ Below w.heap.size w wr) (fun i _ => 8 - (Go.RowKit.intOf i).toNat)
  case atStart => exact ⟨0, by decide, rfl, z3, a3.congr fun q _ => by rw [if_neg (Nat.not_lt_zero q)], hB3⟩
  case round =>
    clear z3 a3 hB3
    obtain ⟨q, hq, rfl, hZ, hA, hB⟩ := hrel
    obtain ⟨wA, rfl⟩ : ∃ q : World, q = wr := ⟨_, rfl⟩
    by_cases hq8 : q < 8
    · have hq8z : (q : Int) < 8 := by omega
      obtain ⟨E, hE⟩ : ∃ E : Nat → Num, E = fun j => if j < q then F (D + j) else Num.zero := ⟨_, rfl⟩
      have HPU := hide (show ∀ j, j < 8 → setNum E q (F (D + q)) j = if j < q + 1 then F (D + j) else Num.zero from fun j _ => by
        show (if j = q then _ else E j) = _
        by_cases e : j = q
        · subst e; rw [if_pos rfl, if_pos (by omega)]
        · rw [if_neg e, hE]
          show (if j < q then _ else Num.zero) = _
          by_cases e2 : j < q
          · rw [if_pos e2, if_pos (by omega)]
          · rw [if_neg e2, if_neg (by omega)])
      rw [← hE] at hA
      clear hE
      obtain ⟨b', o', e', -, -, c0, c1, c2, c3⟩ := (HI.out.below hB) (D + q) (by omega)
      injection e' with e'
      injection e' with e1 e2
      subst e1
      subst e2
      obtain ⟨P, hP⟩ : ∃ z, D + q = z := ⟨_, rfl⟩
      have p4 : IntKind.i64.wrap ((D : Int) + (q : Int)) = (P : Int) := by rw [show (D : Int) + (q : Int) = (P : Int) by omega]; exact IntWalk.i64_in _ (by omega)
      have p5 : (P : Int) < (n : Int) := by omega
      rw [hP] at c0 c1 c2 c3 HPU
      obtain ⟨x, hx⟩ : ∃ z, F P = z := ⟨_, rfl⟩
      rw [hx] at c0 c1 c2 c3 HPU
      clear hx hP
      obtain ⟨z0, z1, z2, z3⟩ := hA.cells hq8
      obtain ⟨f0, f1, f2, f3⟩ := hA.frozen4 q
      have HA2 := hide (hA.put q x)
      have HZ2 := hide (hZ.other (c := b8) (o := q * 4) hz8 (.int .i64 x.a) (.int .i64 x.b) (.int .i64 x.c) (.int .i64 x.d))
      have HL2 := hide (Below.put4at (c := b8) (o := q * 4) hB hw8 (.int .i64 x.a) (.int .i64 x.b) (.int .i64 x.c) (.int .i64 x.d))
      go_wp2_with fail
      go_roundw
      case rel => exact ⟨q + 1, by omega, by go_num, HZ2.out, HA2.out.congr HPU.out, HL2.out⟩
      case measure => simp [Go.RowKit.intOf]; omega
    · obtain rfl : q = 8 := by omega
      have HZ := hide hZ
      have HA := hide (hA.congr (G := fun q => F (D + q)) fun q hq => if_pos hq)
      have hlt := hA.lt
      go_wp2_with (first | (refine wpList_store8 rfl (.tmp 6) (.tmp 37) rfl w.heap.size (fun _ => Num.zero) (fun q => F (D + q)) rfl rfl HZ.out ?_; intro W9 r9 o9) | (refine wpList_load8G rfl (.tmp 8) rfl b8 (fun q => F (D + q)) rfl HA.out ?_))
      refine bodyPost_ret (v := .tuple #[.agg (arr8 fun q => F (D + q)), .int .i64 0]) (result8 rfl _ rfl rfl r9) rfl ⟨rfl, ?_⟩
      exact hB.trans (o9.to_below (Nat.le_refl _) hB.size)
end Go.Proofs.Ytfemghbjngemlaa
/- Product of the code. -/
namespace Go.Proofs.Ytfemghbjngemlaa
open Go.RowKit
def smallE (x : Num) : Int := x.err 1000000000
/-- The error of a product. -/
def prodE (x y : Num) : Int := if twoE (smallE x) (smallE y) = 0 then unI ((x.prod y).isIn 1000000000) 8 else twoE (smallE x) (smallE y)
/-- What Product hands back. -/
def prodV (x y : Num) : Num := if prodE x y = 0 then x.prod y else Num.zero
theorem numsE_two (M : Int) (x y : Num) : numsE M (fun i => if i = 0 then x else y) 2 = twoE (x.err M) (y.err M) := by
  have e0 : badE (fun j => Num.err M (if j = 0 then x else y)) 1 = x.err M := by
    unfold badE badE
    rw [if_pos rfl]
    rfl
  unfold numsE twoE
  show (if badE (fun j => Num.err M (if j = 0 then x else y)) 1 = 0 then Num.err M (if 1 = 0 then x else y) else badE (fun j => Num.err M (if j = 0 then x else y)) 1) = _
  rw [e0]
  rfl
theorem twoE_zero {a b : Int} (h : twoE a b = 0) : a = 0 ∧ b = 0 := by
  unfold twoE at h
  by_cases h1 : a = 0
  · rw [if_pos h1] at h; exact ⟨h1, h⟩
  · rw [if_neg h1] at h; exact absurd h h1
theorem err_is (M : Int) (x : Num) : (numsE M (fun _ => x) 1 == 0) = x.isIn M := by
  rw [numsE_one]
  unfold Num.err unI
  cases x.isIn M <;> rfl
set_option maxHeartbeats 2000000 in
set_option maxRecDepth 100000 in
theorem Product_any (x y : Num) (w : World) :
    Calls Try.prog 42 #[.agg #[.int .i64 x.a, .int .i64 x.b, .int .i64 x.c, .int .i64 x.d], .agg #[.int .i64 y.a, .int .i64 y.b, .int .i64 y.c, .int .i64 y.d]] w fun e w' => e = .returned (.tuple #[.agg #[.int .i64 (prodV x y).a, .int .i64 (prodV x y).b, .int .i64 (prodV x y).c, .int .i64 (prodV x y).d], .int .i64 (prodE x y)]) ∧ Below w.heap.size w w' := by
  have HE := hide (show prodE x y = if twoE (smallE x) (smallE y) = 0 then unI ((x.prod y).isIn 1000000000) 8 else twoE (smallE x) (smallE y) from rfl)
  have HZ := hide (show twoE (smallE x) (smallE y) = 0 → x.Within 1000000000 ∧ y.Within 1000000000 from fun h => ⟨err_within (twoE_zero h).1, err_within (twoE_zero h).2⟩)
  have HR := hide (show prodV x y = if prodE x y = 0 then x.prod y else Num.zero from rfl)
  have H2 := hide (show numsE 1000000000 (fun i => if i = 0 then x else y) 2 = twoE (smallE x) (smallE y) from numsE_two _ _ _)
  generalize prodV x y = Y at *
  generalize prodE x y = V at *
  generalize twoE (smallE x) (smallE y) = E at *
  go_enter Try.func42, Try.ntmps42
  go_upto_region 1 with fail
  obtain ⟨W, hW⟩ : ∃ q : World, q = ((w.alloc (.cells #[.int .i64 x.a, .int .i64 x.b, .int .i64 x.c, .int .i64 x.d] 26)).alloc (.cells #[.int .i64 y.a, .int .i64 y.b, .int .i64 y.c, .int .i64 y.d] 26)).alloc (.cells #[.int .i64 0, .int .i64 0, .int .i64 0, .int .i64 0] 26) := ⟨_, rfl⟩
  rw [← hW]
  obtain ⟨g1, hg1⟩ : ∃ g, g = w.heap.size + 1 := ⟨_, rfl⟩
  obtain ⟨g2, hg2⟩ : ∃ g, g = w.heap.size + 1 + 1 := ⟨_, rfl⟩
  have bX : Box W w.heap.size 26 #[.int .i64 x.a, .int .i64 x.b, .int .i64 x.c, .int .i64 x.d] := by rw [hW]; exact ((Box.made rfl).alloc _).alloc _
  have bY : Box W g1 26 #[.int .i64 y.a, .int .i64 y.b, .int .i64 y.c, .int .i64 y.d] := by rw [hW]; exact (Box.made (by simp [hg1])).alloc _
  have bZ : Box W g2 26 #[.int .i64 0, .int .i64 0, .int .i64 0, .int .i64 0] := by rw [hW]; exact Box.made (by simp [hg2])
  have hB : Below w.heap.size w W := by rw [hW]; (repeat (first | (with_reducible exact Below.refl _ _) | (with_reducible refine Go.below_drewN ?_ _) | (with_reducible refine Below.drew ?_) | (with_reducible refine Below.alloc ?_ (by first | exact Nat.le_refl _ | (simp; done) | (simp; omega) | omega) _) | (with_reducible refine Below.setCell ?_ (by first | exact Nat.le_refl _ | (simp; done) | (simp; omega) | omega) _)))
  rw [← hg2, ← hg1]
  have hw2 : w.heap.size ≤ g2 := by omega
  clear hW hg1 hg2
  obtain ⟨x0, x1, x2, x3, -, -, -, -, hx⟩ := bX.cells4
  obtain ⟨y0, y1, y2, y3, -, -, -, -, hy⟩ := bY.cells4
  go_wp2_with fail
  refine (smallError_any (some ⟨W.heap.size, 0, none⟩) 2 2 (fun i => if i = 0 then x else y) _ (by decide) (NumsAt.two (Box.made rfl))).mono ?_
  rintro e w1 ⟨rfl, hb1⟩
  rw [H2.out]
  have hc1 : Below W.heap.size W w1 := ((Below.refl _ _).alloc (Nat.le_refl _) _).trans (hb1.mono (by simp))
  replace bX := bX.below hc1
  replace bY := bY.below hc1
  replace bZ := bZ.below hc1
  replace hB := hB.trans (hc1.mono hB.size)
  clear hc1 hb1 x0 x1 x2 x3 hx y0 y1 y2 y3 hy H2
  by_cases he : E = 0
  · obtain ⟨hxw, hyw⟩ := HZ.out he
    have HV := hide (HE.out.trans (if_pos he))
    subst he
    clear HE HZ
    have HP := hide (fun W => product_any x y 1000000000 1000000000 W hxw hyw (by decide) (by decide) (by decide))
    obtain ⟨z, hz⟩ : ∃ z, z = x.prod y := ⟨_, rfl⟩
    rw [← hz] at HP HV HR
    clear hz hxw hyw
    obtain ⟨x0, x1, x2, x3, -, -, -, -, hx⟩ := bX.cells4
    obtain ⟨y0, y1, y2, y3, -, -, -, -, hy⟩ := bY.cells4
    go_wp2_with fail
    refine (HP.out _).mono ?_
    rintro e w2 ⟨rfl, hb2⟩
    replace bZ := bZ.below hb2
    replace hB := hB.trans (hb2.mono hB.size)
    clear bX bY hb2 x0 x1 x2 x3 hx y0 y1 y2 y3 hy HP
    go_wp2_with fail
    have hc2 : Below w2.heap.size w2 ((w2.alloc (.cells #[.int .i64 z.a, .int .i64 z.b, .int .i64 z.c, .int .i64 z.d] 26)).alloc (.cells #[.int .i64 z.a, .int .i64 z.b, .int .i64 z.c, .int .i64 z.d] 26)) := by (repeat (first | (with_reducible exact Below.refl _ _) | (with_reducible refine Go.below_drewN ?_ _) | (with_reducible refine Below.drew ?_) | (with_reducible refine Below.alloc ?_ (by first | exact Nat.le_refl _ | (simp; done) | (simp; omega) | omega) _) | (with_reducible refine Below.setCell ?_ (by first | exact Nat.le_refl _ | (simp; done) | (simp; omega) | omega) _)))
    refine (resultError_any (some ⟨w2.heap.size + 1, 0, none⟩) 1 1 (fun _ => z) _ (by decide) (NumsAt.one (Box.made (by simp)))).mono ?_
    rintro e w3 ⟨rfl, hb3⟩
    rw [err_is, ← HV.out]
    have bZ3 := (bZ.below hc2).below hb3
    have bz3 : Box w3 w2.heap.size 26 #[.int .i64 z.a, .int .i64 z.b, .int .i64 z.c, .int .i64 z.d] := (((Box.made rfl).alloc _).below hb3)
    have hB3 := (hB.trans (hc2.mono hB.size)).trans (hb3.mono (by have := hB.size; simp; omega))
    clear hc2 hb3 bZ hB
    obtain ⟨x0, x1, x2, x3, -, -, -, -, hx⟩ := bz3.cells4
    obtain ⟨y0, y1, y2, y3, f0, f1, f2, f3, hy⟩ := bZ3.cells4
    by_cases hv : V = 0
    · have HVZ := hide hv
      subst hv
      have HC := hide (bZ3.put4 (.int .i64 z.a) (.int .i64 z.b) (.int .i64 z.c) (.int .i64 z.d)).cells4
      have HBL := hide (Below.put4 hB3 hw2 (.int .i64 z.a) (.int .i64 z.b) (.int .i64 z.c) (.int .i64 z.d))
      clear bZ3 bz3 hB3
      go_wp2_with fail
      clear y0 y1 y2 y3
      obtain ⟨y0, y1, y2, y3, -⟩ := HC.out
      refine bodyPost_ret (v := .tuple #[.agg #[.int .i64 z.a, .int .i64 z.b, .int .i64 z.c, .int .i64 z.d], .int .i64 0]) ?_ rfl ⟨by rw [show Y = z from by rw [HR.out]; simp], HBL.out⟩
      simp [results, Try.results42, go_sem, y0, y1, y2, y3]
    · have HVN := hide hv
      have tv : (V != 0) = true := by simpa using hv
      have HC := hide (bZ3.put4 (.int .i64 0) (.int .i64 0) (.int .i64 0) (.int .i64 0)).cells4
      have HBL := hide (Below.put4 hB3 hw2 (.int .i64 0) (.int .i64 0) (.int .i64 0) (.int .i64 0))
      clear bZ3 bz3 hB3 hv HV
      go_wp2_with fail
      clear y0 y1 y2 y3
      obtain ⟨y0, y1, y2, y3, -⟩ := HC.out
      refine bodyPost_ret (v := .tuple #[.agg #[.int .i64 0, .int .i64 0, .int .i64 0, .int .i64 0], .int .i64 V]) ?_ rfl ⟨by rw [HR.out, if_neg HVN.out]; rfl, HBL.out⟩
      simp [results, Try.results42, go_sem, y0, y1, y2, y3]
  · have HEN := hide he
    have te : (E != 0) = true := by simpa using he
    have HV := hide (HE.out.trans (if_neg he))
    obtain ⟨y0, y1, y2, y3, f0, f1, f2, f3, hy⟩ := bZ.cells4
    have HC := hide (bZ.put4 (.int .i64 0) (.int .i64 0) (.int .i64 0) (.int .i64 0)).cells4
    have HBL := hide (Below.put4 hB hw2 (.int .i64 0) (.int .i64 0) (.int .i64 0) (.int .i64 0))
    clear bX bY bZ hB he HE HZ
    go_wp2_with fail
    clear y0 y1 y2 y3
    obtain ⟨y0, y1, y2, y3, -⟩ := HC.out
    refine bodyPost_ret (v := .tuple #[.agg #[.int .i64 0, .int .i64 0, .int .i64 0, .int .i64 0], .int .i64 E]) ?_ rfl ⟨by rw [HR.out, HV.out, if_neg HEN.out]; rfl, HBL.out⟩
    simp [results, Try.results42, go_sem, y0, y1, y2, y3]
end Go.Proofs.Ytfemghbjngemlaa
/- The channel of a stream (without a walk): the transform of a symbol of a stream behind paths is eight times the response times the entry. -/
namespace Go.Proofs.Ytfemghbjngemlaa
open Go.RowKit
theorem thrTo_sum {D R I : Nat → Int} {X : Nat → Num} {m : Nat} : ∀ {p : Nat}, (∀ q, q < p → D q ≤ (m : Int)) → thrTo D R I X p m = sumF (fun q => (gN (R q) (I q)).prod (X (m - (D q).toNat))) p
  | 0, _ => rfl
  | p + 1, h => by
    show (if D p ≤ (m : Int) then _ else _) = _
    rw [if_pos (h p (Nat.lt_succ_self p)), thrTo_sum fun q hq => h q (by omega)]
    rfl
theorem respTo_sum {D R I : Nat → Int} {k : Nat} : ∀ (p : Nat), respTo D R I k p = sumF (fun q => tz (gN (R q) (I q)) (-(k : Int) * D q)) p
  | 0 => rfl
  | p + 1 => by
    show (respTo D R I k p).add _ = _
    rw [respTo_sum p]
    rfl
theorem idft_mod (E : Nat → Num) (a b : Int) (t : Int) (h : a = b + 8 * t) : idft E a = idft E b := by
  unfold idft
  refine sumF_congr fun m _ => ?_
  rw [← tz_mod (E m) ((m : Int) * a), ← tz_mod (E m) ((m : Int) * b)]
  congr 1
  rw [h, Int.mul_add, show (m : Int) * (8 * t) = 8 * ((m : Int) * t) by rw [← Int.mul_assoc, ← Int.mul_assoc, Int.mul_comm (m : Int) 8]]
  omega
theorem smpF_idft (F : Nat → Gau) (n : Nat) : smpF F n = idft (fun m => gN (F m).re (F m).im) (n : Int) := rfl
/-- A sample of a stream, so much before the sample j of a symbol. -/
theorem strF_at (F : Nat → Nat → Gau) {g i j d : Nat} (hj : j < 8) (hd : d ≤ g) (hg : g ≤ 7) : strF F g (i * (8 + g) + g + j - d) = idft (fun m => gN (F i m).re (F i m).im) ((j : Int) - (d : Int)) := by
  obtain ⟨p, hp⟩ : ∃ p, p = g + j - d := ⟨_, rfl⟩
  have hp8 : p < 8 + g := by omega
  obtain ⟨h1, h2⟩ := str_at (k := i) hp8
  rw [show i * (8 + g) + g + j - d = i * (8 + g) + p by omega]
  unfold strF
  rw [h1, h2]
  by_cases h : p < g
  · rw [if_pos h, smpF_idft]
    exact idft_mod _ _ _ 1 (by omega)
  · rw [if_neg h, smpF_idft]
    exact idft_mod _ _ _ 0 (by omega)
/-- THE CHANNEL IS A PRODUCT, of a stream. -/
theorem stream_channel (F : Nat → Nat → Gau) (D R I : Nat → Int) {g i p k : Nat} (hg : g ≤ 7) (hD : ∀ q, q < p → 0 ≤ D q ∧ D q ≤ (g : Int)) (hk : k < 8) :
    trnF (fun j => thrTo D R I (strF F g) p (i * (8 + g) + g + j)) k = (respTo D R I k p).prod ⟨8 * (F i k).re, 0, 8 * (F i k).im, 0⟩ := by
  have h := channel_product (fun q => gN (R q) (I q)) D (fun m => gN (F i m).re (F i m).im) p k hk
  rw [respTo_sum]
  have e : Num.times 8 (gN (F i k).re (F i k).im) = ⟨8 * (F i k).re, 0, 8 * (F i k).im, 0⟩ := by
    apply Num.same <;> simp [Num.times, gN]
  rw [← e, ← h]
  unfold trnF dft
  refine sumF_congr fun j hj => ?_
  rw [Int.neg_mul]
  congr 1
  show thrTo D R I (strF F g) p (i * (8 + g) + g + j) = sumF (fun q => (gN (R q) (I q)).prod (idft (fun m => gN (F i m).re (F i m).im) ((j : Int) - D q))) p
  rw [thrTo_sum fun q hq => by have := hD q hq; omega]
  refine sumF_congr fun q hq => ?_
  obtain ⟨h0, h1⟩ := hD q hq
  obtain ⟨d, hd⟩ : ∃ d : Nat, D q = (d : Int) := ⟨(D q).toNat, by omega⟩
  show (gN (R q) (I q)).prod (strF F g (i * (8 + g) + g + j - (D q).toNat)) = (gN (R q) (I q)).prod (idft _ ((j : Int) - D q))
  rw [hd]
  show (gN (R q) (I q)).prod (strF F g (i * (8 + g) + g + j - d)) = _
  rw [strF_at F hj (by omega) hg]
theorem strF_within {F : Nat → Nat → Gau} {g n : Nat} (hF : ∀ i, i < n → ∀ m, m < 8 → (F i m).Within 10000) {j : Nat} (hj : j < n * (8 + g)) : (strF F g j).Within 80000 := by
  have hi : j / (8 + g) < n := Nat.div_lt_of_lt_mul (by rwa [Nat.mul_comm])
  have hs : ∀ q, (smpF (F (j / (8 + g))) q).Within 80000 := fun q => (sumF_within fun m hm => tz_within (gN_within (hF _ hi m hm)) _).more (by decide)
  unfold strF
  split
  · exact hs _
  · exact hs _
theorem numsE_all2 {M : Int} {F : Nat → Num} {n : Nat} (h : ∀ j, j < n → (F j).Within M) : numsE M F n = 0 := by
  unfold numsE
  induction n with
  | zero => rfl
  | succ n ih =>
    rw [badE_succ (ih fun j hj => h j (by omega))]
    show unI ((F n).isIn M) 2 = 0
    rw [Num.isIn_iff.2 (h n (by omega))]
    rfl
theorem trnF_of {X : Nat → Num} {M : Int} (h : ∀ n, n < 8 → (X n).Within M) (k : Nat) : (trnF X k).Within (8 * M) := (sumF_within fun n hn => tz_within (h n hn) _).more (by omega)
end Go.Proofs.Ytfemghbjngemlaa
