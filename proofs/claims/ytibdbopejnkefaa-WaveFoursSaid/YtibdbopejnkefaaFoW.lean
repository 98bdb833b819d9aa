/- Lemmas: G1, G2, G3, G4, G5. -/
import Derived.Laws.MakeOwn
import Derived.Test.YtibdbopejnkefaaBk03
import Derived.Test.YtibdbopejnkefaaBk08
import Derived.Test.YtibdbopejnkefaaBk13
import Derived.Test.YtibdbopejnkefaaBk15
set_option linter.unusedVariables false
set_option linter.unusedSimpArgs false
/- The reference: GAdd of base, power of any whole number, FourErr. -/
namespace Go.Proofs.Ytibdbopejnkefaa
open Go.RowKit Go.Great
set_option maxHeartbeats 2000000 in
theorem gadd_any (x y : Gau) (w : World) (h1 : -9223372036854775808 ≤ x.re + y.re ∧ x.re + y.re ≤ 9223372036854775807) (h2 : -9223372036854775808 ≤ x.im + y.im ∧ x.im + y.im ≤ 9223372036854775807) :
    Calls Try.prog 17 #[.agg #[.int .i64 x.re, .int .i64 x.im], .agg #[.int .i64 y.re, .int .i64 y.im]] w fun e w' => e = .returned (.agg #[.int .i64 (x.re + y.re), .int .i64 (x.im + y.im)]) ∧ Below w.heap.size w w' := by
  have q1 : IntKind.i64.wrap (x.re + y.re) = x.re + y.re := IntWalk.i64_in _ (by omega)
  have q2 : IntKind.i64.wrap (x.im + y.im) = x.im + y.im := IntWalk.i64_in _ (by omega)
  clear h1 h2
  go_enter Try.func17, Try.ntmps17
  go_wp2_with fail
  have hb : Box (((w.alloc (.cells #[.int .i64 x.re, .int .i64 x.im] 23)).alloc (.cells #[.int .i64 y.re, .int .i64 y.im] 23)).alloc (.cells #[.int .i64 (x.re + y.re), .int .i64 (x.im + y.im)] 23)) (w.heap.size + 1 + 1) 23 #[.int .i64 (x.re + y.re), .int .i64 (x.im + y.im)] := Box.made (by simp)
  obtain ⟨y0, y1, -⟩ := hb.cells2
  refine bodyPost_ret (v := .agg #[.int .i64 (x.re + y.re), .int .i64 (x.im + y.im)]) ?_ rfl ⟨rfl, by (repeat (first | (with_reducible exact Below.refl _ _) | (with_reducible refine Go.below_drewN ?_ _) | (with_reducible refine Below.drew ?_) | (with_reducible refine Below.alloc ?_ (by first | exact Nat.le_refl _ | (simp; done) | (simp; omega) | omega) _) | (with_reducible refine Below.setCell ?_ (by first | exact Nat.le_refl _ | (simp; done) | (simp; omega) | omega) _)))⟩
  simp [results, Try.results17, go_sem, y0, y1]
set_option maxHeartbeats 4000000 in
set_option maxRecDepth 100000 in
theorem gmulU_any (x y : Gau) (M N : Int) (w : World) (hx : x.Within M) (hy : y.Within N) (hMN : M * N ≤ 1000000000000) :
    Calls Try.prog 18 #[.agg #[.int .i64 x.re, .int .i64 x.im], .agg #[.int .i64 y.re, .int .i64 y.im]] w fun e w' => e = .returned (.agg #[.int .i64 (x.re * y.re - x.im * y.im), .int .i64 (x.re * y.im + x.im * y.re)]) ∧ Below w.heap.size w w' := by
  have h1 := mul_within hx.re hy.re
  have h2 := mul_within hx.im hy.im
  have h3 := mul_within hx.re hy.im
  have h4 := mul_within hx.im hy.re
  have q1 : IntKind.i64.wrap (x.re * y.re) = x.re * y.re := IntWalk.i64_in _ (by omega)
  have q2 : IntKind.i64.wrap (x.im * y.im) = x.im * y.im := IntWalk.i64_in _ (by omega)
  have q3 : IntKind.i64.wrap (x.re * y.re - x.im * y.im) = x.re * y.re - x.im * y.im := IntWalk.i64_in _ (by omega)
  have q4 : IntKind.i64.wrap (x.re * y.im) = x.re * y.im := IntWalk.i64_in _ (by omega)
  have q5 : IntKind.i64.wrap (x.im * y.re) = x.im * y.re := IntWalk.i64_in _ (by omega)
  have q6 : IntKind.i64.wrap (x.re * y.im + x.im * y.re) = x.re * y.im + x.im * y.re := IntWalk.i64_in _ (by omega)
  clear h1 h2 h3 h4 hx hy hMN
  obtain ⟨P, hP⟩ : ∃ z, z = x.re * y.re - x.im * y.im := ⟨_, rfl⟩
  obtain ⟨Q, hQ⟩ : ∃ z, z = x.re * y.im + x.im * y.re := ⟨_, rfl⟩
  rw [← hP, ← hQ]
  replace q3 := q3.trans hP.symm
  replace q6 := q6.trans hQ.symm
  clear hP hQ
  go_enter Try.func18, Try.ntmps18
  go_wp2_with fail
  have hb : Box (((w.alloc (.cells #[.int .i64 x.re, .int .i64 x.im] 23)).alloc (.cells #[.int .i64 y.re, .int .i64 y.im] 23)).alloc (.cells #[.int .i64 P, .int .i64 Q] 23)) (w.heap.size + 1 + 1) 23 #[.int .i64 P, .int .i64 Q] := Box.made (by simp)
  obtain ⟨y0, y1, -⟩ := hb.cells2
  refine bodyPost_ret (v := .agg #[.int .i64 P, .int .i64 Q]) ?_ rfl ⟨rfl, by (repeat (first | (with_reducible exact Below.refl _ _) | (with_reducible refine Go.below_drewN ?_ _) | (with_reducible refine Below.drew ?_) | (with_reducible refine Below.alloc ?_ (by first | exact Nat.le_refl _ | (simp; done) | (simp; omega) | omega) _) | (with_reducible refine Below.setCell ?_ (by first | exact Nat.le_refl _ | (simp; done) | (simp; omega) | omega) _)))⟩
  simp [results, Try.results18, go_sem, y0, y1]
/-- The powers of i. -/
def powU : Nat → Gau
  | 0 => ⟨1, 0⟩
  | n + 1 => ⟨-(powU n).im, (powU n).re⟩
theorem powU_within : ∀ n, (powU n).Within 1
  | 0 => ⟨by decide, by decide⟩
  | n + 1 => by
    have h := powU_within n
    exact ⟨by have := h.im; show -1 ≤ -(powU n).im ∧ -(powU n).im ≤ 1; omega, h.re⟩
theorem powU_four {q : Nat} (hq : q < 4) : powU q = ⟨cosI q, sinI q⟩ := by
  obtain rfl | rfl | rfl | rfl : q = 0 ∨ q = 1 ∨ q = 2 ∨ q = 3 := by omega
  all_goals rfl
set_option maxHeartbeats 4000000 in
set_option maxRecDepth 100000 in
theorem powerU_any (n : Int) (k : Nat) (w : World) (hk : (k : Int) = n % 4) :
    Calls Try.prog 19 #[.int .i64 n] w fun e w' => e = .returned (.agg #[.int .i64 (powU k).re, .int .i64 (powU k).im]) ∧ Below w.heap.size w w' := by
  have HM := hide (fun W => modN_any n 4 W (by decide) (by decide))
  rw [← hk] at HM
  have hk4 : k < 4 := by omega
  clear hk
  have HG := hide (fun j W => gmulU_any (powU j) ⟨0, 1⟩ 1 1 W (powU_within j) ⟨by decide, by decide⟩ (by decide))
  go_enter Try.func19, Try.ntmps19
  go_wp2_with fail
  go_loopw [4] (fun iv wr => ∃ j : Nat, j ≤ k ∧ iv = .int .i64 (j : Int) ∧ Box wr w.heap.size 23 #[.int .i64 0, .int .i64 0] ∧ Box wr (w.heap.size + 1) 23 #[.int .i64 (powU j).re, .int .i64 (powU j).im] ∧ Below w.heap.size w wr) (fun iv _ => k - (Go.RowKit.intOf iv).toNat)
  case atStart => exact ⟨0, Nat.zero_le _, rfl, (Box.made rfl).alloc _, Box.made (by simp), by (repeat (first | (with_reducible exact Below.refl _ _) | (with_reducible refine Go.below_drewN ?_ _) | (with_reducible refine Below.drew ?_) | (with_reducible refine Below.alloc ?_ (by first | exact Nat.le_refl _ | (simp; done) | (simp; omega) | omega) _) | (with_reducible refine Below.setCell ?_ (by first | exact Nat.le_refl _ | (simp; done) | (simp; omega) | omega) _)))⟩
  case round =>
    obtain ⟨j, hj, rfl, b2, b3, hB⟩ := hrel
    obtain ⟨wA, rfl⟩ : ∃ x : World, x = wr := ⟨_, rfl⟩
    have HGj := hide (fun W => HG.out j W)
    have HN := hide (show powU (j + 1) = ⟨-(powU j).im, (powU j).re⟩ from rfl)
    obtain ⟨x, hx⟩ : ∃ x, x = powU j := ⟨_, rfl⟩
    rw [← hx] at b3 HGj HN
    have HXX := hide hx
    clear hx
    by_cases hlt : j < k
    · have hltz : (j : Int) < (k : Int) := by omega
      obtain ⟨z0, z1, f0, f1, hl⟩ := b3.cells2
      have hBs := hB.size
      go_wp2_with (go_at_call 41; refine (HM.out _).mono ?_; rintro e w' ⟨rfl, rfl⟩)
      refine (HGj.out _).mono ?_
      rintro e w5 ⟨rfl, hb5⟩
      simp only [Int.mul_zero, Int.mul_one, Int.zero_sub, Int.add_zero]
      replace b2 := b2.below hb5
      replace b3 := b3.below hb5
      have hB5 := hB.trans (hb5.mono hBs)
      clear hb5 hB z0 z1 f0 f1 hl
      obtain ⟨z0, z1, f0, f1, hl⟩ := b3.cells2
      have HB2 := hide ((b2.other (p := ⟨w.heap.size + 1, 0, none⟩) (by simp) (.int .i64 (-x.im))).other (p := ⟨w.heap.size + 1, 1, none⟩) (by simp) (.int .i64 x.re))
      have HB3 := hide (show Box _ _ _ _ from by have := (b3.set_ 0 (.int .i64 (-x.im))).set_ 1 (.int .i64 x.re); simpa using this)
      have HBL := hide ((hB5.setCell (p := ⟨w.heap.size + 1, 0, none⟩) (Nat.le_succ _) (.int .i64 (-x.im))).setCell (p := ⟨w.heap.size + 1, 1, none⟩) (Nat.le_succ _) (.int .i64 x.re))
      clear b2 b3 hB5
      go_wp2_with fail
      go_roundw
      case rel => exact ⟨j + 1, by omega, by go_num, HB2.out, by rw [HN.out]; exact HB3.out, HBL.out⟩
      case measure => simp [Go.RowKit.intOf]; omega
    · obtain rfl : j = k := by omega
      have hltz : ¬ ((j : Int) < (j : Int)) := by omega
      obtain ⟨z0, z1, f0, f1, hl⟩ := b3.cells2
      obtain ⟨y0, y1, g0, g1, hl'⟩ := b2.cells2
      have HB2 := hide (show Box _ _ _ _ from by have := (b2.set_ 0 (.int .i64 x.re)).set_ 1 (.int .i64 x.im); simpa using this)
      have HBL := hide ((hB.setCell (p := ⟨w.heap.size, 0, none⟩) (Nat.le_refl _) (.int .i64 x.re)).setCell (p := ⟨w.heap.size, 1, none⟩) (Nat.le_refl _) (.int .i64 x.im))
      clear b2 b3 hB
      go_wp2_with (go_at_call 41; refine (HM.out _).mono ?_; rintro e w' ⟨rfl, rfl⟩)
      refine bodyPost_ret (v := .agg #[.int .i64 x.re, .int .i64 x.im]) ?_ rfl ⟨by rw [HXX.out], HBL.out⟩
      obtain ⟨y0, y1, -⟩ := HB2.out.cells2
      simp [results, Try.results19, go_sem, y0, y1]
set_option maxHeartbeats 4000000 in
set_option maxRecDepth 100000 in
theorem fourErrR_any (X : Nat → Gau) (w : World) :
    Calls Try.prog 7 #[.agg (arrG4 X)] w fun e w' => e = .returned (.int .i64 (gausE 1000000000 X 4)) ∧ Below w.heap.size w w' := by
  have HIE := hide (fun j W => isEntryR_any (X j) 1000000000 W (by decide))
  have HSU := hide (fun n (h : gausE 1000000000 X n = 0) => (show gausE 1000000000 X (n + 1) = (X n).err 1000000000 from badE_succ h))
  have HAT := hide (fun n (h : gausE 1000000000 X n = 0) (hn : n < 4) (hx : (X n).isIn 1000000000 = false) => (show gausE 1000000000 X 4 = 2 from by
    have e : (X n).err 1000000000 = 2 := by unfold Gau.err unI; rw [hx]; rfl
    rw [← e]
    exact badE_at (g := fun j => (X j).err 1000000000) h (by show (X n).err 1000000000 ≠ 0; rw [e]; decide) 4 hn))
  obtain ⟨E, hE⟩ : ∃ q, gausE 1000000000 X 4 = q := ⟨_, rfl⟩
  rw [hE]
  simp only [hE] at HAT
  have HE := hide hE
  clear hE
  go_enter Try.func7, Try.ntmps7
  go_upto_region 1 with (refine wpList_boxTo rfl 24 (.tmp 0) rfl _ rfl w.heap.size rfl (arrG4 X) rfl ?_; obtain ⟨W0, hW0⟩ : ∃ q : World, w.alloc (.cells (arrG4 X) 24) = q := ⟨_, rfl⟩; rw [hW0])
  have x0 : ArrG4 W0 w.heap.size X := by rw [← hW0]; exact ArrG4.at_alloc w _ _ rfl
  have hB0 : Below w.heap.size w W0 := by rw [← hW0]; (repeat (first | (with_reducible exact Below.refl _ _) | (with_reducible refine Go.below_drewN ?_ _) | (with_reducible refine Below.drew ?_) | (with_reducible refine Below.alloc ?_ (by first | exact Nat.le_refl _ | (simp; done) | (simp; omega) | omega) _) | (with_reducible refine Below.setCell ?_ (by first | exact Nat.le_refl _ | (simp; done) | (simp; omega) | omega) _)))
  clear hW0
  go_wp2_with fail
  go_loopw [3] (fun iv wr => ∃ n : Nat, n ≤ 4 ∧ iv = .int .i64 (n : Int) ∧ gausE 1000000000 X n = 0 ∧ ArrG4 wr w.heap.size X ∧ Below w.heap.size w wr) (fun iv _ => 4 - (Go.RowKit.intOf iv).toNat)
  case atStart => exact ⟨0, by decide, rfl, rfl, x0, hB0⟩
  case round =>
    clear x0 hB0
    obtain ⟨n, hn, rfl, h0, hX, hB⟩ := hrel
    obtain ⟨wA, rfl⟩ : ∃ x : World, x = wr := ⟨_, rfl⟩
    by_cases hn4 : n < 4
    · have hn4z : (n : Int) < 4 := by omega
      have HI := hide (HIE.out n)
      have HS := hide (fun (h : (X n).isIn 1000000000 = true) => (HSU.out n h0).trans (show (X n).err 1000000000 = 0 by unfold Gau.err unI; rw [h]; rfl))
      have HA := hide (HAT.out n h0 hn4)
      obtain ⟨c0, c1⟩ := hX.cells hn4
      obtain ⟨b, hb⟩ : ∃ q, (X n).isIn 1000000000 = q := ⟨_, rfl⟩
      obtain ⟨xr, hxr⟩ : ∃ q, (X n).re = q := ⟨_, rfl⟩
      obtain ⟨xi, hxi⟩ : ∃ q, (X n).im = q := ⟨_, rfl⟩
      simp only [hb, hxr, hxi] at HI HS HA c0 c1
      clear hb hxr hxi h0
      go_wp2_with fail
      refine (HI.out _).mono ?_
      rintro e w1 ⟨rfl, hb1⟩
      have HX1 := hide (hX.below hb1)
      have hB1 := hB.trans (hb1.mono hB.size)
      clear hb1 hB hX c0 c1
      cases b
      · have hv := HA.out rfl
        go_wp2_with fail
        go_ret
        exact ⟨by subst hv; rfl, hB1⟩
      · have HS0 := hide (HS.out rfl)
        go_wp2_with fail
        go_roundw
        case rel => exact ⟨n + 1, by omega, by go_num, HS0.out, HX1.out, hB1⟩
        case measure => simp [Go.RowKit.intOf]; omega
    · obtain rfl : n = 4 := by omega
      have hv : E = 0 := by rw [← HE.out]; exact h0
      go_wp2_with fail
      go_ret
      exact ⟨by subst hv; rfl, hB⟩
end Go.Proofs.Ytibdbopejnkefaa
/- Four of the reference. -/
namespace Go.Proofs.Ytibdbopejnkefaa
open Go.RowKit Go.Great
set_option maxHeartbeats 8000000 in
set_option maxRecDepth 100000 in
theorem fourR_any (X : Nat → Gau) (hX : ∀ n, n < 4 → (X n).Within 1000000000) (w : World) :
    Calls Try.prog 9 #[.agg (arrG4 X)] w fun e w' => e = .returned (.agg (arrG4 (fF X 1))) ∧ Below w.heap.size w w' := by
  have HX := hide hX
  have HFT := hide (fun k n (hn : n ≤ 4) => (fTo_within (X := X) (s := 1) (k := k) (n := n) fun i hi => hX i (by omega)).more (N := 4000000000) (by omega))
  clear hX
  obtain ⟨Y, hY⟩ : ∃ z, fF X 1 = z := ⟨_, rfl⟩
  rw [hY]
  have HY := hide (fun k => (show fTo X 1 k 4 = Y k by rw [← hY]; rfl))
  clear hY
  go_enter Try.func9, Try.ntmps9
  go_upto_region 1 with (first
    | (refine wpList_boxTo rfl 24 (.tmp 0) rfl _ rfl w.heap.size rfl (arrG4 X) rfl ?_; obtain ⟨W0, hW0⟩ : ∃ q : World, w.alloc (.cells (arrG4 X) 24) = q := ⟨_, rfl⟩; rw [hW0])
    | (refine wpList_allocTo rfl (some 2) rfl (.pointer (some ⟨W0.heap.size, 0, none⟩)) (.cells (arrG4 fun _ => Gau.zero) 24) (by kernel_rfl) ?_))
  have x0 : ArrG4 W0 w.heap.size X := by rw [← hW0]; exact ArrG4.at_alloc w _ _ rfl
  have hB0 : Below w.heap.size w W0 := by rw [← hW0]; (repeat (first | (with_reducible exact Below.refl _ _) | (with_reducible refine Go.below_drewN ?_ _) | (with_reducible refine Below.drew ?_) | (with_reducible refine Below.alloc ?_ (by first | exact Nat.le_refl _ | (simp; done) | (simp; omega) | omega) _) | (with_reducible refine Below.setCell ?_ (by first | exact Nat.le_refl _ | (simp; done) | (simp; omega) | omega) _)))
  have hs0 : w.heap.size < W0.heap.size := by rw [← hW0]; simp
  clear hW0
  obtain ⟨b0, hb0⟩ : ∃ g, w.heap.size = g := ⟨_, rfl⟩
  obtain ⟨b1, hb1⟩ : ∃ g, W0.heap.size = g := ⟨_, rfl⟩
  obtain ⟨W1, hW1⟩ : ∃ q : World, q = W0.alloc (.cells (arrG4 fun _ => Gau.zero) 24) := ⟨_, rfl⟩
  rw [← hW1]
  have r1 : ArrG4 W1 b1 (fun _ => Gau.zero) := by rw [hW1]; exact ArrG4.at_alloc W0 _ _ hb1.symm
  have x1 : ArrG4 W1 b0 X := by rw [hW1, ← hb0]; exact x0.alloc _
  have hB1 : Below b0 w W1 := by rw [hW1, ← hb0]; exact hB0.alloc hB0.size _
  have hs1 : b1 < W1.heap.size := by rw [hW1, ← hb1]; simp
  have h01 : b0 ≠ b1 := by omega
  have h01' : b0 ≤ b1 := by omega
  have HW0 := hide hb0
  simp only [hb0, hb1]
  clear hW1 x0 hB0
  go_upto_region 2 with (refine wpList_allocTo rfl (some 3) rfl (.pointer (some ⟨W1.heap.size, 0, none⟩)) (.cells (arrG4 fun _ => Gau.zero) 24) (by kernel_rfl) ?_)
  obtain ⟨b5, hb5⟩ : ∃ g, W1.heap.size = g := ⟨_, rfl⟩
  obtain ⟨W3, hW3⟩ : ∃ q : World, q = W1.alloc (.cells (arrG4 fun _ => Gau.zero) 24) := ⟨_, rfl⟩
  rw [← hW3]
  simp only [hb5]
  have a3 : ArrG4 W3 b5 (fun _ => Gau.zero) := by rw [hW3]; exact ArrG4.at_alloc W1 _ _ hb5.symm
  replace r1 : ArrG4 W3 b1 (fun _ => Gau.zero) := by rw [hW3]; exact r1.alloc _
  replace x1 : ArrG4 W3 b0 X := by rw [hW3]; exact x1.alloc _
  have hB3 : Below b0 w W3 := by rw [hW3]; exact hB1.alloc (by omega) _
  have hw5 : b0 ≤ b5 := by omega
  have hz5 : b1 ≠ b5 := by omega
  have hx5 : b0 ≠ b5 := by omega
  clear hW3 hB1 hs0 hs1 hb5
  go_wp2_with fail
  go_loopw [4] (fun i wr => ∃ k : Nat, k ≤ 4 ∧ i = .int .i64 (k : Int) ∧ ArrG4 wr b1 (fun _ => Gau.zero) ∧ ArrG4 wr b0 X ∧ ArrG4 wr b5 (fun q => if q < k then Y q else Gau.zero) ∧ Below b0 w wr) (fun i _ => 4 - (Go.RowKit.intOf i).toNat)
  case atStart => exact ⟨0, by decide, rfl, r1, x1, a3.congr fun q _ => by rw [if_neg (Nat.not_lt_zero q)], hB3⟩
  case round =>
    clear r1 a3 hB3 x1
    obtain ⟨k, hk, rfl, hZ, hXA, hA, hB⟩ := hrel
    obtain ⟨wA, rfl⟩ : ∃ q : World, q = wr := ⟨_, rfl⟩
    by_cases hk4 : k < 4
    · have hk4z : (k : Int) < 4 := by omega
      go_wp2_with fail
      obtain ⟨E, hE⟩ : ∃ E : Nat → Gau, E = fun q => if q < k then Y q else Gau.zero := ⟨_, rfl⟩
      have HE := hide hE
      rw [← hE] at hA
      clear hE
      go_loopw [5] (fun x wr => ∃ j : Nat, j ≤ 4 ∧ x = .int .i64 (j : Int) ∧ ArrG4 wr b1 (fun _ => Gau.zero) ∧ ArrG4 wr b0 X ∧ ArrG4 wr b5 (setG4 E k (fTo X 1 k j)) ∧ Below b0 w wr) (fun x _ => 4 - (Go.RowKit.intOf x).toNat)
      case atStart =>
        refine ⟨0, Nat.zero_le _, rfl, hZ, hXA, hA.congr fun q _ => ?_, hB⟩
        show E q = if q = k then Gau.zero else E q
        by_cases e : q = k
        · rw [if_pos e, HE.out]
          show (if q < k then _ else Gau.zero) = _
          rw [if_neg (by omega)]
        · rw [if_neg e]
      case round =>
        clear hZ hA hB hXA
        obtain ⟨j, hj, rfl, hZ, hXA, hA, hB⟩ := hrel
        obtain ⟨wB, rfl⟩ : ∃ q : World, q = wr := ⟨_, rfl⟩
        by_cases hjn : j < 4
        · have hjz : (j : Int) < 4 := by omega
          have hsw := HFT.out k j (by omega)
          have hr := mul_within (M := 3) (N := 3) (a := (j : Int)) (b := (k : Int)) (by omega) (by omega)
          have HTT := hide (show fTo X 1 k (j + 1) = ⟨(fTo X 1 k j).re + (itm (X j) ((1 * (k : Int) * (j : Int)) % 4).toNat).re, (fTo X 1 k j).im + (itm (X j) ((1 * (k : Int) * (j : Int)) % 4).toNat).im⟩ from rfl)
          rw [show 1 * (k : Int) * (j : Int) = (j : Int) * (k : Int) by rw [Int.one_mul, Int.mul_comm]] at HTT
          obtain ⟨e, he⟩ : ∃ e, (j : Int) * (k : Int) = e := ⟨_, rfl⟩
          rw [he] at hr HTT
          have q2 : IntKind.i64.wrap ((j : Int) * (k : Int)) = e := by rw [he]; exact IntWalk.i64_in _ (by omega)
          obtain ⟨q, hq⟩ : ∃ q : Nat, (q : Int) = e % 4 := ⟨(e % 4).toNat, by omega⟩
          have hq4 : q < 4 := by omega
          rw [← hq, show ((q : Int)).toNat = q from rfl] at HTT
          have hxw := HX.out j hjn
          obtain ⟨x, hx⟩ : ∃ z, X j = z := ⟨_, rfl⟩
          rw [hx] at hxw HTT
          have hiw := itm_within hq4 hxw
          have HPW := hide (fun W => powerU_any e q W hq)
          simp only [powU_four hq4] at HPW
          have hcw : (⟨cosI q, sinI q⟩ : Gau).Within 1 := by rw [← powU_four hq4]; exact powU_within q
          have HMU := hide (fun W => gmulU_any x ⟨cosI q, sinI q⟩ 1000000000 1 W hxw hcw (by decide))
          simp only at HMU
          have HIT := hide (show itm x q = ⟨x.re * cosI q - x.im * sinI q, x.re * sinI q + x.im * cosI q⟩ from rfl)
          rw [HIT.out] at hiw HTT
          simp only at HTT
          obtain ⟨u1, hu1⟩ : ∃ z, x.re * cosI q - x.im * sinI q = z := ⟨_, rfl⟩
          obtain ⟨u2, hu2⟩ : ∃ z, x.re * sinI q + x.im * cosI q = z := ⟨_, rfl⟩
          simp only [hu1, hu2] at HMU HTT hiw
          clear hu1 hu2 HIT
          obtain ⟨cq, hcq⟩ : ∃ z, cosI q = z := ⟨_, rfl⟩
          obtain ⟨sq, hsq⟩ : ∃ z, sinI q = z := ⟨_, rfl⟩
          simp only [hcq, hsq] at HPW HMU
          clear hcq hsq hcw
          obtain ⟨s, hs⟩ : ∃ z, fTo X 1 k j = z := ⟨_, rfl⟩
          rw [hs] at hA hsw HTT
          have HAD := hide (fun W => gadd_any s ⟨u1, u2⟩ W (by have := hsw.re; have := hiw.re; simp only at this ⊢; omega) (by have := hsw.im; have := hiw.im; simp only at this ⊢; omega))
          simp only at HAD
          obtain ⟨s1, hs1⟩ : ∃ z, s.re = z := ⟨_, rfl⟩
          obtain ⟨s2, hs2⟩ : ∃ z, s.im = z := ⟨_, rfl⟩
          simp only [hs1, hs2] at HAD HTT
          obtain ⟨t1, ht1⟩ : ∃ z, s1 + u1 = z := ⟨_, rfl⟩
          obtain ⟨t2, ht2⟩ : ∃ z, s2 + u2 = z := ⟨_, rfl⟩
          simp only [ht1, ht2] at HAD HTT
          have HEE := hide (show ∀ q, q < 4 → setG4 (setG4 E k s) k ⟨t1, t2⟩ q = setG4 E k (fTo X 1 k (j + 1)) q from fun q _ => by
            rw [HTT.out]
            show (if q = k then _ else if q = k then s else E q) = if q = k then _ else E q
            by_cases e : q = k
            · rw [if_pos e, if_pos e]
            · rw [if_neg e, if_neg e, if_neg e])
          have HSF := hide (fun W (h : ArrG4 W b5 (setG4 E k s)) => (show W.cell? ⟨b5, k * 2, none⟩ = some (.int .i64 s1) ∧ W.cell? ⟨b5, k * 2 + 1, none⟩ = some (.int .i64 s2) from by have h2 := h.cells hk4; rw [show setG4 E k s k = s from if_pos rfl, hs1, hs2] at h2; exact h2))
          obtain ⟨xr, hxr⟩ : ∃ z, x.re = z := ⟨_, rfl⟩
          obtain ⟨xi, hxi⟩ : ∃ z, x.im = z := ⟨_, rfl⟩
          simp only [hxr, hxi] at HMU
          have HPC := hide (fun W (h : ArrG4 W b0 X) => (show W.cell? ⟨b0, j * 2, none⟩ = some (.int .i64 xr) ∧ W.cell? ⟨b0, j * 2 + 1, none⟩ = some (.int .i64 xi) from by rw [← hxr, ← hxi, ← hx]; exact h.cells hjn))
          clear hs hs1 hs2 ht1 ht2 hxr hxi hx hsw hiw hxw hr he hq HTT
          obtain ⟨z0, z1⟩ := HSF.out _ hA
          obtain ⟨f0, f1⟩ := hA.frozen2 k
          obtain ⟨p0, p1⟩ := HPC.out _ hXA
          go_upto_region 8 with fail
          refine wp_region_held_drew (S := fun w' => w'.cell? ⟨b0, j * 2, none⟩ = some (.int .i64 xr) ∧ w'.cell? ⟨b0, j * 2 + 1, none⟩ = some (.int .i64 xi)) (by kernel_rfl) ⟨p0, p1⟩ (fun hHeld => ?_)
          refine wpAnyH_take (i := 0) (oi := ⟨some 14, _, _, _, _, _⟩) (v := ?_) rfl (by kernel_rfl) (by kernel_rfl) (by kernel_rfl) (fun _ _ _ h => h) (Or.inl ⟨by rfl, ?_⟩) (by assumption) ?_
          rotate_left
          · (intro w' hSw; (try dsimp only at hSw); go_simp <;> (with_reducible rfl))
          try simp only [Act.put, List.setIfInBounds_toArray, List.set_cons_zero, List.set_cons_succ]
          refine wpAnyH_take (i := 1) (oi := ⟨some 15, _, _, _, _, _⟩) (v := ?_) rfl (by kernel_rfl) (by kernel_rfl) (by kernel_rfl) (fun _ _ _ h => h) (Or.inl ⟨by rfl, ?_⟩) (by assumption) ?_
          rotate_left
          · (intro w' hSw; (try dsimp only at hSw); go_simp <;> (with_reducible rfl))
          try simp only [Act.put, List.setIfInBounds_toArray, List.set_cons_zero, List.set_cons_succ]
          refine wpAnyH_take (i := 2) (oi := ⟨some 16, _, _, _, _, _⟩) (v := ?_) rfl (by kernel_rfl) (by kernel_rfl) (by kernel_rfl) (fun _ _ _ h => h) (Or.inl ⟨by rfl, ?_⟩) (by assumption) ?_
          rotate_left
          · (intro w' hSw; (try dsimp only at hSw); go_simp <;> (with_reducible rfl))
          try simp only [Act.put, List.setIfInBounds_toArray, List.set_cons_zero, List.set_cons_succ]
          refine wpAnyH_take (i := 4) (oi := ⟨some 18, _, _, _, _, _⟩) (v := ?_) rfl (by kernel_rfl) (by kernel_rfl) (by kernel_rfl) (fun _ _ _ h => h) (Or.inl ⟨by rfl, ?_⟩) (by assumption) ?_
          rotate_left
          · (intro w' hSw; (try dsimp only at hSw); go_simp <;> (with_reducible rfl))
          try simp only [Act.put, List.setIfInBounds_toArray, List.set_cons_zero, List.set_cons_succ]
          refine wpAnyH_take (i := 5) (oi := ⟨some 19, _, _, _, _, _⟩) (v := ?_) rfl (by kernel_rfl) (by kernel_rfl) (by kernel_rfl) (fun _ _ _ h => h) (Or.inl ⟨by rfl, ?_⟩) (by assumption) ?_
          rotate_left
          · (intro w' hSw; (try dsimp only at hSw); go_simp <;> (with_reducible rfl))
          try simp only [Act.put, List.setIfInBounds_toArray, List.set_cons_zero, List.set_cons_succ]
          refine wpAnyH_take (i := 6) (oi := ⟨some 20, _, _, _, _, _⟩) (v := ?_) rfl (by kernel_rfl) (by kernel_rfl) (by kernel_rfl) (fun _ _ _ h => h) (Or.inl ⟨by rfl, ?_⟩) (by assumption) ?_
          rotate_left
          · (intro w' hSw; (try dsimp only at hSw); go_simp <;> (with_reducible rfl))
          try simp only [Act.put, List.setIfInBounds_toArray, List.set_cons_zero, List.set_cons_succ]
          refine wpAnyH_take (i := 7) (oi := ⟨some 21, _, _, _, _, _⟩) (v := ?_) rfl (by kernel_rfl) (by kernel_rfl) (by kernel_rfl) (fun _ _ _ h => h) (Or.inl ⟨by rfl, ?_⟩) (by assumption) ?_
          rotate_left
          · (intro w' hSw; (try dsimp only at hSw); go_simp <;> (with_reducible rfl))
          try simp only [Act.put, List.setIfInBounds_toArray, List.set_cons_zero, List.set_cons_succ]
          refine wpAnyH_take (i := 8) (oi := ⟨some 22, _, _, _, _, _⟩) (v := ?_) rfl (by kernel_rfl) (by kernel_rfl) (by kernel_rfl) (fun _ _ _ h => h) (Or.inl ⟨by rfl, ?_⟩) (by assumption) ?_
          rotate_left
          · (intro w' hSw; (try dsimp only at hSw); go_simp <;> (with_reducible rfl))
          try simp only [Act.put, List.setIfInBounds_toArray, List.set_cons_zero, List.set_cons_succ]
          refine wpAnyH_take (i := 9) (oi := ⟨some 23, _, _, _, _, _⟩) (v := ?_) rfl (by kernel_rfl) (by kernel_rfl) (by kernel_rfl) (fun _ _ _ h => h) (Or.inl ⟨by rfl, ?_⟩) (by assumption) ?_
          rotate_left
          · (intro w' hSw; (try dsimp only at hSw); go_simp <;> (with_reducible rfl))
          try simp only [Act.put, List.setIfInBounds_toArray, List.set_cons_zero, List.set_cons_succ]
          refine wpAnyH_ready (rs := [3, 10]) (by kernel_rfl) (by simp) ?_
          refine AllReadyH.cons (o := ⟨some 17, _, _, _, _, _⟩) rfl (fun K' hK => ?_) (AllReadyH.cons (o := ⟨some 24, _, _, _, _, _⟩) rfl (fun K' hK => ?_) AllReadyH.nil)
          · skip
            go_simp
            refine hK.out _ _ ⟨p0, p1⟩ (fun hHeld => ?_)
            clear hK K'
            try simp only [Act.put, List.setIfInBounds_toArray, List.set_cons_zero, List.set_cons_succ]
            refine wpAnyH_ready (rs := [10]) (by kernel_rfl) (by simp) ?_
            refine AllReadyH.cons (o := ⟨some 24, _, _, _, _, _⟩) rfl (fun K' hK => ?_) AllReadyH.nil
            go_simp
            go_at_call 19
            refine (HPW.out _).mono ?_
            rintro r' v2 ⟨rfl, hb2⟩
            have hc2 : Below wB.heap.size wB v2 := by first | exact hb2 | exact below_of_drew hb2 | exact below_of_drew (below_of_drew hb2)
            have A2 := hA.below hc2
            have Z2 := hZ.below hc2
            have B2 := hXA.below hc2
            have hB2_ := hB.trans (hc2.mono (Nat.le_of_lt hXA.lt))
            clear z0 z1 f0 f1 p0 p1
            obtain ⟨z0, z1⟩ := HSF.out _ A2
            obtain ⟨f0, f1⟩ := A2.frozen2 k
            obtain ⟨p0, p1⟩ := HPC.out _ B2
            go_wp2_with fail
            refine hK.out _ _ ⟨p0, p1⟩ (fun hHeld => ?_)
            clear hK K'
            try simp only [Act.put, List.setIfInBounds_toArray, List.set_cons_zero, List.set_cons_succ]
            refine wpAnyH_ready (rs := [11]) (by kernel_rfl) (by simp) ?_
            refine AllReadyH.cons (o := ⟨some 25, _, _, _, _, _⟩) rfl (fun K' hK => ?_) AllReadyH.nil
            go_simp
            go_at_call 18
            refine (HMU.out _).mono ?_
            rintro r' v3 ⟨rfl, hb3⟩
            have hc3 : Below v2.heap.size v2 v3 := by first | exact hb3 | exact below_of_drew hb3 | exact below_of_drew (below_of_drew hb3)
            have A3 := A2.below hc3
            have Z3 := Z2.below hc3
            have B3 := B2.below hc3
            have hB3_ := hB2_.trans (hc3.mono (Nat.le_of_lt B2.lt))
            clear z0 z1 f0 f1 p0 p1
            obtain ⟨z0, z1⟩ := HSF.out _ A3
            obtain ⟨f0, f1⟩ := A3.frozen2 k
            obtain ⟨p0, p1⟩ := HPC.out _ B3
            go_wp2_with fail
            refine hK.out _ _ ⟨p0, p1⟩ (fun hHeld => ?_)
            clear hK K'
            try simp only [Act.put, List.setIfInBounds_toArray, List.set_cons_zero, List.set_cons_succ]
            refine wpAnyH_ready (rs := [12]) (by kernel_rfl) (by simp) ?_
            refine AllReadyH.cons (o := ⟨some 26, _, _, _, _, _⟩) rfl (fun K' hK => ?_) AllReadyH.nil
            go_simp
            go_at_call 17
            refine (HAD.out _).mono ?_
            rintro r' v4 ⟨rfl, hb4⟩
            have hc4 : Below v3.heap.size v3 v4 := by first | exact hb4 | exact below_of_drew hb4 | exact below_of_drew (below_of_drew hb4)
            have A4 := A3.below hc4
            have Z4 := Z3.below hc4
            have B4 := B3.below hc4
            have hB4_ := hB3_.trans (hc4.mono (Nat.le_of_lt B3.lt))
            clear z0 z1 f0 f1 p0 p1
            obtain ⟨z0, z1⟩ := HSF.out _ A4
            obtain ⟨f0, f1⟩ := A4.frozen2 k
            obtain ⟨p0, p1⟩ := HPC.out _ B4
            go_wp2_with fail
            refine hK.out _ _ ⟨p0, p1⟩ (fun hHeld => ?_)
            clear hK K'
            try simp only [Act.put, List.setIfInBounds_toArray, List.set_cons_zero, List.set_cons_succ]
            refine wpAnyH_ready (rs := [13]) (by kernel_rfl) (by simp) ?_
            refine AllReadyH.cons (o := ⟨some 27, _, _, _, _, _⟩) rfl (fun K' hK => ?_) AllReadyH.nil
            go_simp
            refine hK.out _ _ ⟨p0, p1⟩ (fun hHeld => ?_)
            clear hK K'
            try simp only [Act.put, List.setIfInBounds_toArray, List.set_cons_zero, List.set_cons_succ]
            refine wpAnyH_ready (rs := [14]) (by kernel_rfl) (by simp) ?_
            refine AllReadyH.cons (o := ⟨none, _, _, _, _, _⟩) rfl (fun K' hK => ?_) AllReadyH.nil
            go_simp
            have HL6 := hide ((hB4_.setCell (p := ⟨b5, k * 2, none⟩) hw5 (.int .i64 t1)).setCell (p := ⟨b5, k * 2 + 1, none⟩) hw5 (.int .i64 t2))
            have HA6 := hide (A4.put k ⟨t1, t2⟩)
            have HZ6 := hide (Z4.other (c := b5) (o := k * 2) hz5 (.int .i64 t1) (.int .i64 t2))
            have HB6 := hide (B4.other (c := b5) (o := k * 2) hx5 (.int .i64 t1) (.int .i64 t2))
            refine hK.out _ _ (by obtain ⟨p0, p1⟩ := HPC.out _ HB6.out; exact ⟨p0, p1⟩) (fun hHeld => ?_)
            clear hK K'
            try simp only [Act.put, List.setIfInBounds_toArray, List.set_cons_zero, List.set_cons_succ]
            clear z0 z1 f0 f1 p0 p1
            refine wpAnyH_done (by kernel_rfl) ?_ _
            go_wp2_with fail
            go_roundw
            case rel => exact ⟨j + 1, by omega, by go_num, HZ6.out, HB6.out, HA6.out.congr HEE.out, HL6.out⟩
            case measure => simp [Go.RowKit.intOf]; omega
          · skip
            go_simp
            go_at_call 19
            refine (HPW.out _).mono ?_
            rintro r' v7 ⟨rfl, hb7⟩
            have hc7 : Below wB.heap.size wB v7 := by first | exact hb7 | exact below_of_drew hb7 | exact below_of_drew (below_of_drew hb7)
            have A7 := hA.below hc7
            have Z7 := hZ.below hc7
            have B7 := hXA.below hc7
            have hB7_ := hB.trans (hc7.mono (Nat.le_of_lt hXA.lt))
            clear z0 z1 f0 f1 p0 p1
            obtain ⟨z0, z1⟩ := HSF.out _ A7
            obtain ⟨f0, f1⟩ := A7.frozen2 k
            obtain ⟨p0, p1⟩ := HPC.out _ B7
            go_wp2_with fail
            refine hK.out _ _ ⟨p0, p1⟩ (fun hHeld => ?_)
            clear hK K'
            try simp only [Act.put, List.setIfInBounds_toArray, List.set_cons_zero, List.set_cons_succ]
            refine wpAnyH_ready (rs := [3, 11]) (by kernel_rfl) (by simp) ?_
            refine AllReadyH.cons (o := ⟨some 17, _, _, _, _, _⟩) rfl (fun K' hK => ?_) (AllReadyH.cons (o := ⟨some 25, _, _, _, _, _⟩) rfl (fun K' hK => ?_) AllReadyH.nil)
            · skip
              go_simp
              refine hK.out _ _ ⟨p0, p1⟩ (fun hHeld => ?_)
              clear hK K'
              try simp only [Act.put, List.setIfInBounds_toArray, List.set_cons_zero, List.set_cons_succ]
              refine wpAnyH_ready (rs := [11]) (by kernel_rfl) (by simp) ?_
              refine AllReadyH.cons (o := ⟨some 25, _, _, _, _, _⟩) rfl (fun K' hK => ?_) AllReadyH.nil
              go_simp
              go_at_call 18
              refine (HMU.out _).mono ?_
              rintro r' v9 ⟨rfl, hb9⟩
              have hc9 : Below v7.heap.size v7 v9 := by first | exact hb9 | exact below_of_drew hb9 | exact below_of_drew (below_of_drew hb9)
              have A9 := A7.below hc9
              have Z9 := Z7.below hc9
              have B9 := B7.below hc9
              have hB9_ := hB7_.trans (hc9.mono (Nat.le_of_lt B7.lt))
              clear z0 z1 f0 f1 p0 p1
              obtain ⟨z0, z1⟩ := HSF.out _ A9
              obtain ⟨f0, f1⟩ := A9.frozen2 k
              obtain ⟨p0, p1⟩ := HPC.out _ B9
              go_wp2_with fail
              refine hK.out _ _ ⟨p0, p1⟩ (fun hHeld => ?_)
              clear hK K'
              try simp only [Act.put, List.setIfInBounds_toArray, List.set_cons_zero, List.set_cons_succ]
              refine wpAnyH_ready (rs := [12]) (by kernel_rfl) (by simp) ?_
              refine AllReadyH.cons (o := ⟨some 26, _, _, _, _, _⟩) rfl (fun K' hK => ?_) AllReadyH.nil
              go_simp
              go_at_call 17
              refine (HAD.out _).mono ?_
              rintro r' v10 ⟨rfl, hb10⟩
              have hc10 : Below v9.heap.size v9 v10 := by first | exact hb10 | exact below_of_drew hb10 | exact below_of_drew (below_of_drew hb10)
              have A10 := A9.below hc10
              have Z10 := Z9.below hc10
              have B10 := B9.below hc10
              have hB10_ := hB9_.trans (hc10.mono (Nat.le_of_lt B9.lt))
              clear z0 z1 f0 f1 p0 p1
              obtain ⟨z0, z1⟩ := HSF.out _ A10
              obtain ⟨f0, f1⟩ := A10.frozen2 k
              obtain ⟨p0, p1⟩ := HPC.out _ B10
              go_wp2_with fail
              refine hK.out _ _ ⟨p0, p1⟩ (fun hHeld => ?_)
              clear hK K'
              try simp only [Act.put, List.setIfInBounds_toArray, List.set_cons_zero, List.set_cons_succ]
              refine wpAnyH_ready (rs := [13]) (by kernel_rfl) (by simp) ?_
              refine AllReadyH.cons (o := ⟨some 27, _, _, _, _, _⟩) rfl (fun K' hK => ?_) AllReadyH.nil
              go_simp
              refine hK.out _ _ ⟨p0, p1⟩ (fun hHeld => ?_)
              clear hK K'
              try simp only [Act.put, List.setIfInBounds_toArray, List.set_cons_zero, List.set_cons_succ]
              refine wpAnyH_ready (rs := [14]) (by kernel_rfl) (by simp) ?_
              refine AllReadyH.cons (o := ⟨none, _, _, _, _, _⟩) rfl (fun K' hK => ?_) AllReadyH.nil
              go_simp
              have HL12 := hide ((hB10_.setCell (p := ⟨b5, k * 2, none⟩) hw5 (.int .i64 t1)).setCell (p := ⟨b5, k * 2 + 1, none⟩) hw5 (.int .i64 t2))
              have HA12 := hide (A10.put k ⟨t1, t2⟩)
              have HZ12 := hide (Z10.other (c := b5) (o := k * 2) hz5 (.int .i64 t1) (.int .i64 t2))
              have HB12 := hide (B10.other (c := b5) (o := k * 2) hx5 (.int .i64 t1) (.int .i64 t2))
              refine hK.out _ _ (by obtain ⟨p0, p1⟩ := HPC.out _ HB12.out; exact ⟨p0, p1⟩) (fun hHeld => ?_)
              clear hK K'
              try simp only [Act.put, List.setIfInBounds_toArray, List.set_cons_zero, List.set_cons_succ]
              clear z0 z1 f0 f1 p0 p1
              refine wpAnyH_done (by kernel_rfl) ?_ _
              go_wp2_with fail
              go_roundw
              case rel => exact ⟨j + 1, by omega, by go_num, HZ12.out, HB12.out, HA12.out.congr HEE.out, HL12.out⟩
              case measure => simp [Go.RowKit.intOf]; omega
            · skip
              go_simp
              go_at_call 18
              refine (HMU.out _).mono ?_
              rintro r' v13 ⟨rfl, hb13⟩
              have hc13 : Below v7.heap.size v7 v13 := by first | exact hb13 | exact below_of_drew hb13 | exact below_of_drew (below_of_drew hb13)
              have A13 := A7.below hc13
              have Z13 := Z7.below hc13
              have B13 := B7.below hc13
              have hB13_ := hB7_.trans (hc13.mono (Nat.le_of_lt B7.lt))
              clear z0 z1 f0 f1 p0 p1
              obtain ⟨z0, z1⟩ := HSF.out _ A13
              obtain ⟨f0, f1⟩ := A13.frozen2 k
              obtain ⟨p0, p1⟩ := HPC.out _ B13
              go_wp2_with fail
              refine hK.out _ _ ⟨p0, p1⟩ (fun hHeld => ?_)
              clear hK K'
              try simp only [Act.put, List.setIfInBounds_toArray, List.set_cons_zero, List.set_cons_succ]
              refine wpAnyH_ready (rs := [3]) (by kernel_rfl) (by simp) ?_
              refine AllReadyH.cons (o := ⟨some 17, _, _, _, _, _⟩) rfl (fun K' hK => ?_) AllReadyH.nil
              go_simp
              refine hK.out _ _ ⟨p0, p1⟩ (fun hHeld => ?_)
              clear hK K'
              try simp only [Act.put, List.setIfInBounds_toArray, List.set_cons_zero, List.set_cons_succ]
              refine wpAnyH_ready (rs := [12]) (by kernel_rfl) (by simp) ?_
              refine AllReadyH.cons (o := ⟨some 26, _, _, _, _, _⟩) rfl (fun K' hK => ?_) AllReadyH.nil
              go_simp
              go_at_call 17
              refine (HAD.out _).mono ?_
              rintro r' v15 ⟨rfl, hb15⟩
              have hc15 : Below v13.heap.size v13 v15 := by first | exact hb15 | exact below_of_drew hb15 | exact below_of_drew (below_of_drew hb15)
              have A15 := A13.below hc15
              have Z15 := Z13.below hc15
              have B15 := B13.below hc15
              have hB15_ := hB13_.trans (hc15.mono (Nat.le_of_lt B13.lt))
              clear z0 z1 f0 f1 p0 p1
              obtain ⟨z0, z1⟩ := HSF.out _ A15
              obtain ⟨f0, f1⟩ := A15.frozen2 k
              obtain ⟨p0, p1⟩ := HPC.out _ B15
              go_wp2_with fail
              refine hK.out _ _ ⟨p0, p1⟩ (fun hHeld => ?_)
              clear hK K'
              try simp only [Act.put, List.setIfInBounds_toArray, List.set_cons_zero, List.set_cons_succ]
              refine wpAnyH_ready (rs := [13]) (by kernel_rfl) (by simp) ?_
              refine AllReadyH.cons (o := ⟨some 27, _, _, _, _, _⟩) rfl (fun K' hK => ?_) AllReadyH.nil
              go_simp
              refine hK.out _ _ ⟨p0, p1⟩ (fun hHeld => ?_)
              clear hK K'
              try simp only [Act.put, List.setIfInBounds_toArray, List.set_cons_zero, List.set_cons_succ]
              refine wpAnyH_ready (rs := [14]) (by kernel_rfl) (by simp) ?_
              refine AllReadyH.cons (o := ⟨none, _, _, _, _, _⟩) rfl (fun K' hK => ?_) AllReadyH.nil
              go_simp
              have HL17 := hide ((hB15_.setCell (p := ⟨b5, k * 2, none⟩) hw5 (.int .i64 t1)).setCell (p := ⟨b5, k * 2 + 1, none⟩) hw5 (.int .i64 t2))
              have HA17 := hide (A15.put k ⟨t1, t2⟩)
              have HZ17 := hide (Z15.other (c := b5) (o := k * 2) hz5 (.int .i64 t1) (.int .i64 t2))
              have HB17 := hide (B15.other (c := b5) (o := k * 2) hx5 (.int .i64 t1) (.int .i64 t2))
              refine hK.out _ _ (by obtain ⟨p0, p1⟩ := HPC.out _ HB17.out; exact ⟨p0, p1⟩) (fun hHeld => ?_)
              clear hK K'
              try simp only [Act.put, List.setIfInBounds_toArray, List.set_cons_zero, List.set_cons_succ]
              clear z0 z1 f0 f1 p0 p1
              refine wpAnyH_done (by kernel_rfl) ?_ _
              go_wp2_with fail
              go_roundw
              case rel => exact ⟨j + 1, by omega, by go_num, HZ17.out, HB17.out, HA17.out.congr HEE.out, HL17.out⟩
              case measure => simp [Go.RowKit.intOf]; omega
        · obtain rfl : j = 4 := by omega
          go_wp2_with fail
          go_roundw
          case rel =>
            refine ⟨k + 1, by omega, by go_num, hZ, hXA, hA.congr fun q _ => ?_, hB⟩
            show (if q = k then fTo X 1 k 4 else E q) = if q < k + 1 then Y q else Gau.zero
            by_cases e : q = k
            · subst e; rw [if_pos rfl, if_pos (by omega), HY.out]
            · rw [if_neg e, HE.out]
              show (if q < k then _ else Gau.zero) = _
              by_cases e2 : q < k
              · rw [if_pos e2, if_pos (by omega)]
              · rw [if_neg e2, if_neg (by omega)]
          case measure => simp [Go.RowKit.intOf]; omega
    · obtain rfl : k = 4 := by omega
      have HZ := hide hZ
      have HA := hide (hA.congr (G := Y) fun q hq => if_pos hq)
      go_wp2_with (first | (refine wpList_loadG4 rfl (.tmp 3) rfl b5 Y rfl HA.out ?_) | (refine wpList_storeG4 rfl (.tmp 2) (.tmp 28) rfl b1 (fun _ => Gau.zero) Y rfl rfl HZ.out ?_; intro W2 r2 o2))
      refine bodyPost_ret (v := .agg (arrG4 Y)) (result1G4 rfl _ rfl r2) rfl ⟨rfl, ?_⟩
      rw [HW0.out]
      exact hB.trans (o2.to_below h01' (Nat.le_of_lt hXA.lt))
end Go.Proofs.Ytibdbopejnkefaa
/- Four and FourBack of the code. -/
namespace Go.Proofs.Ytibdbopejnkefaa
open Go.RowKit Go.Great
def okB (y : Gau) : Bool := y.re.tmod 4 == 0 && y.im.tmod 4 == 0
def bkAll (Y : Nat → Gau) : Nat → Bool
  | 0 => true
  | n + 1 => bkAll Y n && okB (Y n)
def bkG (y : Gau) : Gau := ⟨y.re.tdiv 4, y.im.tdiv 4⟩
theorem bkAll_false {Y : Nat → Gau} : ∀ {n j : Nat}, j < n → okB (Y j) = false → bkAll Y n = false
  | 0, j, h, _ => absurd h (Nat.not_lt_zero _)
  | n + 1, j, h, e => by
    by_cases hj : j = n
    · subst hj; simp [bkAll, e]
    · simp [bkAll, bkAll_false (n := n) (j := j) (by omega) e]
theorem bkAll_all {Y : Nat → Gau} : ∀ {n : Nat}, (∀ j, j < n → okB (Y j) = true) → bkAll Y n = true
  | 0, _ => rfl
  | n + 1, h => by
    show (bkAll Y n && okB (Y n)) = true
    rw [bkAll_all (fun j hj => h j (by omega)), h n (by omega)]
    rfl
def bkR (X : Nat → Gau) : Int := if gausE 1000000000 X 4 = 0 then (if bkAll (fF X (-1)) 4 = true then 0 else 3) else gausE 1000000000 X 4
theorem okB_cases (y : Gau) : (okB y = true ∧ y.re.tmod 4 = 0 ∧ y.im.tmod 4 = 0) ∨ (okB y = false ∧ ((¬ y.re.tmod 4 = 0) ∨ (y.re.tmod 4 = 0 ∧ ¬ y.im.tmod 4 = 0))) := by
  unfold okB
  by_cases h1 : y.re.tmod 4 = 0 <;> by_cases h2 : y.im.tmod 4 = 0 <;> simp [h1, h2]
theorem tdiv4_size {a : Int} (h : -4000000000 ≤ a ∧ a ≤ 4000000000) : IntKind.i64.wrap (a.tdiv 4) = a.tdiv 4 := by
  have h1 := Int.mul_tdiv_add_tmod a 4
  obtain ⟨f1, f2, -⟩ := tmod_facts a 4 (by decide)
  have f1b : -4 < a.tmod 4 := f1
  have f2b : a.tmod 4 < 4 := f2
  exact IntWalk.i64_in _ (by omega)
theorem fF_size {X : Nat → Gau} {s : Int} (hX : ∀ n, n < 4 → (X n).Within 1000000000) (k : Nat) : (fF X s k).Within 4000000000 := (fTo_within (n := 4) fun i hi => hX i hi).more (by decide)
/-- Four points there and back are four times what they were. -/
theorem four_back (x : Nat → Gau) {k : Nat} (hk : k < 4) : fF (fF x 1) (-1) k = ⟨4 * (x k).re, 4 * (x k).im⟩ := by
  have f : ∀ x : Nat → Gau, fF x 1 0 = ⟨(x 0).re + (x 1).re + (x 2).re + (x 3).re, (x 0).im + (x 1).im + (x 2).im + (x 3).im⟩ ∧ fF x 1 1 = ⟨(x 0).re - (x 1).im - (x 2).re + (x 3).im, (x 0).im + (x 1).re - (x 2).im - (x 3).re⟩ ∧ fF x 1 2 = ⟨(x 0).re - (x 1).re + (x 2).re - (x 3).re, (x 0).im - (x 1).im + (x 2).im - (x 3).im⟩ ∧ fF x 1 3 = ⟨(x 0).re + (x 1).im - (x 2).re - (x 3).im, (x 0).im - (x 1).re - (x 2).im + (x 3).re⟩ := fun x => by
    refine ⟨?_, ?_, ?_, ?_⟩ <;> (apply Gau.same <;> (simp [fF, fTo, itm, cosI, sinI, Gau.zero]; try omega))
  have g : ∀ x : Nat → Gau, fF x (-1) 0 = ⟨(x 0).re + (x 1).re + (x 2).re + (x 3).re, (x 0).im + (x 1).im + (x 2).im + (x 3).im⟩ ∧ fF x (-1) 1 = ⟨(x 0).re + (x 1).im - (x 2).re - (x 3).im, (x 0).im - (x 1).re - (x 2).im + (x 3).re⟩ ∧ fF x (-1) 2 = ⟨(x 0).re - (x 1).re + (x 2).re - (x 3).re, (x 0).im - (x 1).im + (x 2).im - (x 3).im⟩ ∧ fF x (-1) 3 = ⟨(x 0).re - (x 1).im - (x 2).re + (x 3).im, (x 0).im + (x 1).re - (x 2).im - (x 3).re⟩ := fun x => by
    refine ⟨?_, ?_, ?_, ?_⟩ <;> (apply Gau.same <;> (simp [fF, fTo, itm, cosI, sinI, Gau.zero]; try omega))
  obtain ⟨y0, y1, y2, y3⟩ := f x
  obtain ⟨z0, z1, z2, z3⟩ := g (fF x 1)
  obtain rfl | rfl | rfl | rfl : k = 0 ∨ k = 1 ∨ k = 2 ∨ k = 3 := by omega
  · rw [z0, y0, y1, y2, y3]; apply Gau.same <;> (simp only; omega)
  · rw [z1, y0, y1, y2, y3]; apply Gau.same <;> (simp only; omega)
  · rw [z2, y0, y1, y2, y3]; apply Gau.same <;> (simp only; omega)
  · rw [z3, y0, y1, y2, y3]; apply Gau.same <;> (simp only; omega)
theorem okB_four (a b : Int) : okB ⟨4 * a, 4 * b⟩ = true ∧ bkG ⟨4 * a, 4 * b⟩ = ⟨a, b⟩ := by
  have h : ∀ a : Int, (4 * a).tmod 4 = 0 ∧ (4 * a).tdiv 4 = a := fun a => ⟨Int.mul_tmod_right 4 a, Int.mul_tdiv_cancel_left a (by decide)⟩
  unfold okB bkG
  simp [(h a).1, (h a).2, (h b).1, (h b).2]
set_option maxHeartbeats 4000000 in
set_option maxRecDepth 100000 in
theorem Four_any (X : Nat → Gau) (w : World) :
    Calls Try.prog 5 #[.agg (arrG4 X)] w fun e w' => e = .returned (.tuple #[.agg (arrG4 fun k => if gausE 1000000000 X 4 = 0 then fF X 1 k else Gau.zero), .int .i64 (gausE 1000000000 X 4)]) ∧ Below w.heap.size w w' := by
  by_cases hE : gausE 1000000000 X 4 = 0
  · have h := Four_right X hE w
    simp only [hE, if_true]
    exact h
  simp only [if_neg hE]
  have HFE := hide (fun W => fourError_any X W)
  obtain ⟨E, hEE⟩ : ∃ z, gausE 1000000000 X 4 = z := ⟨_, rfl⟩
  rw [hEE] at hE ⊢
  simp only [hEE] at HFE
  clear hEE
  have t1 : (E != 0) = true := by simpa using hE
  go_enter Try.func5, Try.ntmps5
  go_upto_region 1 with (first
    | (refine wpList_boxTo rfl 24 (.tmp 0) rfl _ rfl w.heap.size rfl (arrG4 X) rfl ?_; obtain ⟨W0, hW0⟩ : ∃ q : World, w.alloc (.cells (arrG4 X) 24) = q := ⟨_, rfl⟩; rw [hW0])
    | (refine wpList_allocTo rfl (some 2) rfl (.pointer (some ⟨W0.heap.size, 0, none⟩)) (.cells (arrG4 fun _ => Gau.zero) 24) (by kernel_rfl) ?_))
  have x0 : ArrG4 W0 w.heap.size X := by rw [← hW0]; exact ArrG4.at_alloc w _ _ rfl
  have hB0 : Below w.heap.size w W0 := by rw [← hW0]; (repeat (first | (with_reducible exact Below.refl _ _) | (with_reducible refine Go.below_drewN ?_ _) | (with_reducible refine Below.drew ?_) | (with_reducible refine Below.alloc ?_ (by first | exact Nat.le_refl _ | (simp; done) | (simp; omega) | omega) _) | (with_reducible refine Below.setCell ?_ (by first | exact Nat.le_refl _ | (simp; done) | (simp; omega) | omega) _)))
  have hs0 : w.heap.size < W0.heap.size := by rw [← hW0]; simp
  clear hW0
  obtain ⟨b0, hb0⟩ : ∃ g, w.heap.size = g := ⟨_, rfl⟩
  obtain ⟨b1, hb1⟩ : ∃ g, W0.heap.size = g := ⟨_, rfl⟩
  obtain ⟨W1, hW1⟩ : ∃ q : World, q = W0.alloc (.cells (arrG4 fun _ => Gau.zero) 24) := ⟨_, rfl⟩
  rw [← hW1]
  have HZ := hide (show ArrG4 W1 b1 (fun _ => Gau.zero) by rw [hW1]; exact ArrG4.at_alloc W0 _ _ hb1.symm)
  have HX := hide (show ArrG4 W1 b0 X by rw [hW1, ← hb0]; exact x0.alloc _)
  have hB1 : Below b0 w W1 := by rw [hW1, ← hb0]; exact hB0.alloc hB0.size _
  have h01' : b0 ≤ b1 := by omega
  have HW0 := hide hb0
  simp only [hb0, hb1]
  clear hW1 x0 hB0 hs0
  go_wp2_with (refine wpList_loadG4 rfl (.tmp 1) rfl b0 X rfl HX.out ?_)
  refine (HFE.out _).mono ?_
  rintro e w2 ⟨rfl, hb2⟩
  have HX2 := hide (HX.out.below hb2)
  have HZ2 := hide (HZ.out.below hb2)
  have hB2 := hB1.trans (hb2.mono (by have := HX.out.lt; omega))
  have hs2 : b1 < w2.heap.size := HZ2.out.lt
  clear hb2 hB1 HX HZ HFE
  go_upto_region 3 with fail
  have hz8 : ∀ a : Act, (execOp a.eval (⟨some 9, .build 24 #[], 24, "", #[], none⟩ : Oper)).run Try.prog w2 = .ok (.value (.agg (arrG4 fun _ => Gau.zero))) w2 := fun a => by kernel_rfl
  go_wp2_with (refine wpList_storeG4 rfl (.tmp 2) (.tmp 9) rfl b1 (fun _ => Gau.zero) (fun _ => Gau.zero) rfl (by first | rfl | kernel_rfl) HZ2.out ?_; intro W9 r9 o9)
  refine bodyPost_ret (v := .tuple #[.agg (arrG4 fun _ => Gau.zero), .int .i64 E]) (result2G4 rfl _ rfl rfl r9) rfl ⟨rfl, ?_⟩
  rw [HW0.out]
  exact hB2.trans (o9.to_below h01' (by omega))
set_option maxHeartbeats 8000000 in
set_option maxRecDepth 100000 in
theorem FourBack_any (X : Nat → Gau) (w : World) :
    Calls Try.prog 6 #[.agg (arrG4 X)] w fun e w' => e = .returned (.tuple #[.agg (arrG4 fun k => if bkR X = 0 then bkG (fF X (-1) k) else Gau.zero), .int .i64 (bkR X)]) ∧ Below w.heap.size w w' := by
  have HFE := hide (fun W => fourError_any X W)
  have HTS := hide (fun W (h : gausE 1000000000 X 4 = 0) => foursOf_any X (-1) (by decide) (gausE_within h) W)
  have HYW := hide (fun (h : gausE 1000000000 X 4 = 0) k => fF_size (s := -1) (gausE_within h) k)
  obtain ⟨V, hV⟩ : ∃ z, bkR X = z := ⟨_, rfl⟩
  have HV := hide hV
  rw [hV]
  clear hV
  unfold bkR at HV
  obtain ⟨E, hE⟩ : ∃ z, gausE 1000000000 X 4 = z := ⟨_, rfl⟩
  rw [hE] at HV
  simp only [hE] at HFE HTS HYW
  obtain ⟨Y, hY⟩ : ∃ z, fF X (-1) = z := ⟨_, rfl⟩
  rw [hY] at HTS HV HYW ⊢
  clear hE hY
  obtain ⟨G, hG⟩ : ∃ z : Nat → Gau, (fun n => if V = 0 then bkG (Y n) else Gau.zero) = z := ⟨_, rfl⟩
  rw [hG]
  have HG := hide hG
  clear hG
  go_enter Try.func6, Try.ntmps6
  go_upto_region 1 with (first
    | (refine wpList_boxTo rfl 24 (.tmp 0) rfl _ rfl w.heap.size rfl (arrG4 X) rfl ?_; obtain ⟨W0, hW0⟩ : ∃ q : World, w.alloc (.cells (arrG4 X) 24) = q := ⟨_, rfl⟩; rw [hW0])
    | (refine wpList_allocTo rfl (some 2) rfl (.pointer (some ⟨W0.heap.size, 0, none⟩)) (.cells (arrG4 fun _ => Gau.zero) 24) (by kernel_rfl) ?_))
  have x0 : ArrG4 W0 w.heap.size X := by rw [← hW0]; exact ArrG4.at_alloc w _ _ rfl
  have hB0 : Below w.heap.size w W0 := by rw [← hW0]; (repeat (first | (with_reducible exact Below.refl _ _) | (with_reducible refine Go.below_drewN ?_ _) | (with_reducible refine Below.drew ?_) | (with_reducible refine Below.alloc ?_ (by first | exact Nat.le_refl _ | (simp; done) | (simp; omega) | omega) _) | (with_reducible refine Below.setCell ?_ (by first | exact Nat.le_refl _ | (simp; done) | (simp; omega) | omega) _)))
  have hs0 : w.heap.size < W0.heap.size := by rw [← hW0]; simp
  clear hW0
  obtain ⟨b0, hb0⟩ : ∃ g, w.heap.size = g := ⟨_, rfl⟩
  obtain ⟨b1, hb1⟩ : ∃ g, W0.heap.size = g := ⟨_, rfl⟩
  obtain ⟨W1, hW1⟩ : ∃ q : World, q = W0.alloc (.cells (arrG4 fun _ => Gau.zero) 24) := ⟨_, rfl⟩
  rw [← hW1]
  have HZ := hide (show ArrG4 W1 b1 (fun _ => Gau.zero) by rw [hW1]; exact ArrG4.at_alloc W0 _ _ hb1.symm)
  have HX := hide (show ArrG4 W1 b0 X by rw [hW1, ← hb0]; exact x0.alloc _)
  have hB1 : Below b0 w W1 := by rw [hW1, ← hb0]; exact hB0.alloc hB0.size _
  have h01' : b0 ≤ b1 := by omega
  have HW0 := hide hb0
  simp only [hb0, hb1]
  clear hW1 x0 hB0 hs0
  go_wp2_with (refine wpList_loadG4 rfl (.tmp 1) rfl b0 X rfl HX.out ?_)
  refine (HFE.out _).mono ?_
  rintro e w2 ⟨rfl, hb2⟩
  have HX2 := hide (HX.out.below hb2)
  have HZ2 := hide (HZ.out.below hb2)
  have hB2 := hB1.trans (hb2.mono (by have := HX.out.lt; omega))
  have hs2 : b1 < w2.heap.size := HZ2.out.lt
  clear hb2 hB1 HX HZ HFE
  by_cases hE : E = 0
  case neg =>
    have t1 : (E != 0) = true := by simpa using hE
    have hVE : V = E := by rw [← HV.out, if_neg hE]
    subst hVE
    have hG : G = fun _ => Gau.zero := HG.out.symm.trans (funext fun n => if_neg hE)
    subst hG
    clear hE HG HV HTS HYW
    go_upto_region 3 with fail
    have hz8 : ∀ a : Act, (execOp a.eval (⟨some 12, .build 24 #[], 24, "", #[], none⟩ : Oper)).run Try.prog w2 = .ok (.value (.agg (arrG4 fun _ => Gau.zero))) w2 := fun a => by kernel_rfl
    go_wp2_with (refine wpList_storeG4 rfl (.tmp 2) (.tmp 12) rfl b1 (fun _ => Gau.zero) (fun _ => Gau.zero) rfl (by first | rfl | kernel_rfl) HZ2.out ?_; intro W9 r9 o9)
    refine bodyPost_ret (v := .tuple #[.agg (arrG4 fun _ => Gau.zero), .int .i64 V]) (result2G4 rfl _ rfl rfl r9) rfl ⟨rfl, ?_⟩
    rw [HW0.out]
    exact hB2.trans (o9.to_below h01' (by omega))
  case pos =>
  subst hE
  have HSS := hide (fun W => HTS.out W rfl)
  have HYY := hide (HYW.out rfl)
  have HVV := hide (show (if bkAll Y 4 = true then (0 : Int) else 3) = V from by rw [← HV.out, if_pos rfl])
  clear HV HTS HYW
  go_wp2_with (refine wpList_loadG4 rfl (.tmp 1) rfl b0 X rfl HX2.out ?_)
  refine (HSS.out _).mono ?_
  rintro e w3 ⟨rfl, hb3⟩
  have HZ3 := hide (HZ2.out.below hb3)
  have hB3 := hB2.trans (hb3.mono (by omega))
  have hs3 : b1 < w3.heap.size := HZ3.out.lt
  clear hb3 hB2 HX2 HZ2 HSS
  obtain ⟨b5, hb5⟩ : ∃ z, w3.heap.size = z := ⟨_, rfl⟩
  go_upto_region 5 with (first
    | (refine wpList_storeG4 rfl (.tmp 5) (.tmp 15) rfl b5 (fun _ => Gau.zero) Y rfl rfl (ArrG4.at_alloc _ _ _ hb5.symm) ?_; intro W4 r4 o4)
    | (refine wpList_allocTo rfl (some 5) rfl (.pointer (some ⟨b5, 0, none⟩)) (.cells (arrG4 fun _ => Gau.zero) 24) (by rw [← hb5]; kernel_rfl) ?_))
  have hc4 : Below w3.heap.size w3 W4 := ((Below.refl _ _).alloc (Nat.le_refl _) _).trans (o4.to_below (by omega) (by simp))
  have z4 := HZ3.out.below hc4
  have hB4 := hB3.trans (hc4.mono (by omega))
  have h15 : b1 ≠ b5 := by omega
  have h05 : b0 ≤ b5 := by omega
  have HR4 := hide r4
  clear o4 hc4 hB3 HZ3 hb5 r4
  go_wp2_with (refine wpList_loadG4 rfl (.tmp 5) rfl b5 Y rfl HR4.out ?_)
  go_loopw [17] (fun i wr => ∃ k : Nat, k ≤ 4 ∧ i = .int .i64 (k : Int) ∧ bkAll Y k = true ∧ ArrG4 wr b1 (fun _ => Gau.zero) ∧ ArrG4 wr b5 (fun q => if q < k then bkG (Y q) else Y q) ∧ Below b0 w wr) (fun i _ => 4 - (Go.RowKit.intOf i).toNat)
  case atStart => exact ⟨0, by decide, rfl, rfl, z4, HR4.out.congr fun q _ => by rw [if_neg (Nat.not_lt_zero q)], hB4⟩
  case round =>
    clear HR4 z4 hB4
    obtain ⟨k, hk, rfl, hS, hZ, hA, hB⟩ := hrel
    obtain ⟨wA, rfl⟩ : ∃ q : World, q = wr := ⟨_, rfl⟩
    have HS := hide hS
    clear hS
    by_cases hk4 : k < 4
    · have hk4z : (k : Int) < 4 := by omega
      obtain ⟨E, hE⟩ : ∃ E : Nat → Gau, E = fun q => if q < k then bkG (Y q) else Y q := ⟨_, rfl⟩
      have HE := hide hE
      rw [← hE] at hA
      clear hE
      go_upto_region 8 with (refine wpList_indexG4 rfl (.tmp 16) (.tmp 17) rfl Y k rfl rfl hk4 ?_)
      have HOC := hide (okB_cases (Y k))
      have HOF := hide (fun (h : okB (Y k) = false) => bkAll_false hk4 h)
      have HON := hide (fun (h : okB (Y k) = true) => (show bkAll Y (k + 1) = true from by show (bkAll Y k && okB (Y k)) = true; rw [HS.out, h]; rfl))
      have hyw := HYY.out k
      have HPU := hide (show ∀ q, q < 4 → setG4 E k (bkG (Y k)) q = if q < k + 1 then bkG (Y q) else Y q from fun q _ => by
        show (if q = k then _ else E q) = _
        by_cases e : q = k
        · subst e; rw [if_pos rfl, if_pos (by omega)]
        · rw [if_neg e, HE.out]
          show (if q < k then _ else Y q) = _
          by_cases e2 : q < k
          · rw [if_pos e2, if_pos (by omega)]
          · rw [if_neg e2, if_neg (by omega)])
      obtain ⟨y, hy⟩ : ∃ z, Y k = z := ⟨_, rfl⟩
      rw [hy] at hyw HPU HOC HOF HON ⊢
      clear hy
      obtain ⟨W1, hW1⟩ : ∃ q : World, q = wA.alloc (.cells #[.int .i64 y.re, .int .i64 y.im] 23) := ⟨_, rfl⟩
      rw [← hW1]
      obtain ⟨g8, hg8⟩ : ∃ g, wA.heap.size = g := ⟨_, rfl⟩
      have b8 : Box W1 g8 23 #[.int .i64 y.re, .int .i64 y.im] := by rw [hW1]; exact Box.made hg8.symm
      have hb05 : b0 ≤ wA.heap.size := by have := hA.lt; omega
      replace hA : ArrG4 W1 b5 E := by rw [hW1]; exact hA.alloc _
      replace hZ : ArrG4 W1 b1 (fun _ => Gau.zero) := by rw [hW1]; exact hZ.alloc _
      have hB1 : Below b0 w W1 := by rw [hW1]; exact hB.alloc hb05 _
      clear hW1 hB
      simp only [hg8]
      have e0 := b8.at_ 0
      have e1 := b8.at_ 1
      simp only [List.getElem?_toArray] at e0 e1
      rcases HOC.out with ⟨hok, h1, h2⟩ | ⟨hok, hc⟩
      · have HON1 := hide (HON.out hok)
        have t1 : (y.re.tmod 4 != 0) = false := by simpa using h1
        have t2 : (y.im.tmod 4 != 0) = false := by simpa using h2
        have q1 := tdiv4_size hyw.re
        have q2 := tdiv4_size hyw.im
        obtain ⟨p, hp⟩ : ∃ z, y.re.tdiv 4 = z := ⟨_, rfl⟩
        obtain ⟨r, hr⟩ : ∃ z, y.im.tdiv 4 = z := ⟨_, rfl⟩
        have hG : bkG y = ⟨p, r⟩ := by unfold bkG; rw [hp, hr]
        rw [hG] at HPU
        rw [hp] at q1
        rw [hr] at q2
        clear hok h1 h2 hG HON HOF HOC hyw
        obtain ⟨z0, z1⟩ := hA.cells hk4
        obtain ⟨f0, f1⟩ := hA.frozen2 k
        have HA2 := hide (show ArrG4 ((W1.setCell ⟨b5, k * 2, none⟩ (.int .i64 p)).setCell ⟨b5, k * 2 + 1, none⟩ (.int .i64 r)) b5 (setG4 E k ⟨p, r⟩) from hA.put k ⟨p, r⟩)
        have HZ2 := hide (hZ.other (c := b5) (o := k * 2) h15 (.int .i64 p) (.int .i64 r))
        have HL2 := hide ((hB1.setCell (p := ⟨b5, k * 2, none⟩) h05 (.int .i64 p)).setCell (p := ⟨b5, k * 2 + 1, none⟩) h05 (.int .i64 r))
        go_wp2_with fail
        go_roundw
        case rel => exact ⟨k + 1, by omega, by go_num, HON1.out, HZ2.out, HA2.out.congr HPU.out, HL2.out⟩
        case measure => simp [Go.RowKit.intOf]; omega
      · have hVV := HVV.out
        rw [HOF.out hok, if_neg (by decide)] at hVV
        subst hVV
        have hG : G = fun _ => Gau.zero := HG.out.symm.trans (funext fun n => if_neg (by decide))
        subst hG
        have HZ3 := hide hZ
        have hs3 : b1 < W1.heap.size := hZ.lt
        clear hok HON HOF HOC hyw HG HPU HVV
        rcases hc with h1 | ⟨h1, h2⟩
        · have t1 : (y.re.tmod 4 != 0) = true := by simpa using h1
          clear h1
          go_upto_region 9 with fail
          have hz8 : ∀ a : Act, (execOp a.eval (⟨some 31, .build 24 #[], 24, "", #[], none⟩ : Oper)).run Try.prog W1 = .ok (.value (.agg (arrG4 fun _ => Gau.zero))) W1 := fun a => by kernel_rfl
          go_wp2_with (refine wpList_storeG4 rfl (.tmp 2) (.tmp 31) rfl b1 (fun _ => Gau.zero) (fun _ => Gau.zero) rfl (by first | rfl | kernel_rfl) HZ3.out ?_; intro W9 r9 o9)
          refine bodyPost_ret (v := .tuple #[.agg (arrG4 fun _ => Gau.zero), .int .i64 3]) (result2G4 rfl _ rfl rfl r9) rfl ⟨rfl, ?_⟩
          rw [HW0.out]
          exact hB1.trans (o9.to_below h01' (by omega))
        · have t1 : (y.re.tmod 4 != 0) = false := by simpa using h1
          have t2 : (y.im.tmod 4 != 0) = true := by simpa using h2
          clear h1 h2
          go_upto_region 9 with fail
          have hz8 : ∀ a : Act, (execOp a.eval (⟨some 31, .build 24 #[], 24, "", #[], none⟩ : Oper)).run Try.prog W1 = .ok (.value (.agg (arrG4 fun _ => Gau.zero))) W1 := fun a => by kernel_rfl
          go_wp2_with (refine wpList_storeG4 rfl (.tmp 2) (.tmp 31) rfl b1 (fun _ => Gau.zero) (fun _ => Gau.zero) rfl (by first | rfl | kernel_rfl) HZ3.out ?_; intro W9 r9 o9)
          refine bodyPost_ret (v := .tuple #[.agg (arrG4 fun _ => Gau.zero), .int .i64 3]) (result2G4 rfl _ rfl rfl r9) rfl ⟨rfl, ?_⟩
          rw [HW0.out]
          exact hB1.trans (o9.to_below h01' (by omega))
    · obtain rfl : k = 4 := by omega
      have hVV := HVV.out
      rw [HS.out, if_pos rfl] at hVV
      subst hVV
      have hG : (fun n => bkG (Y n)) = G := (funext fun n => (if_pos rfl).symm : (fun n => bkG (Y n)) = _).trans HG.out
      clear HVV HG
      have HZ := hide hZ
      have HA := hide (show ArrG4 wA b5 G by rw [← hG]; exact hA.congr fun q hq => if_pos hq)
      have hs3 := hZ.lt
      clear hZ hA hG
      go_wp2_with (first | (refine wpList_storeG4 rfl (.tmp 2) (.tmp 42) rfl b1 (fun _ => Gau.zero) G rfl rfl HZ.out ?_; intro W9 r9 o9) | (refine wpList_loadG4 rfl (.tmp 5) rfl b5 G rfl HA.out ?_))
      refine bodyPost_ret (v := .tuple #[.agg (arrG4 G), .int .i64 0]) (result2G4 rfl _ rfl rfl r9) rfl ⟨rfl, ?_⟩
      rw [HW0.out]
      exact hB.trans (o9.to_below h01' (by omega))
end Go.Proofs.Ytibdbopejnkefaa
/- FourBack of the reference. -/
namespace Go.Proofs.Ytibdbopejnkefaa
open Go.RowKit Go.Great
set_option maxHeartbeats 8000000 in
set_option maxRecDepth 100000 in
theorem fourBackR_any (X : Nat → Gau) (hX : ∀ n, n < 4 → (X n).Within 1000000000) (w : World) :
    Calls Try.prog 8 #[.agg (arrG4 X)] w fun e w' => e = .returned (.tuple #[.agg (arrG4 fun k => if bkAll (fF X (-1)) 4 = true then bkG (fF X (-1) k) else Gau.zero), .int .i64 (if bkAll (fF X (-1)) 4 = true then 0 else 3)]) ∧ Below w.heap.size w w' := by
  have HX := hide hX
  have HFT := hide (fun k n (hn : n ≤ 4) => (fTo_within (X := X) (s := -1) (k := k) (n := n) fun i hi => hX i (by omega)).more (N := 4000000000) (by omega))
  have HYY := hide (fun k => fF_size (s := -1) hX k)
  clear hX
  obtain ⟨Y, hY⟩ : ∃ z, fF X (-1) = z := ⟨_, rfl⟩
  rw [hY] at HYY ⊢
  have HY := hide (fun k => (show fTo X (-1) k 4 = Y k by rw [← hY]; rfl))
  clear hY
  obtain ⟨V, hV⟩ : ∃ z, (if bkAll Y 4 = true then (0 : Int) else 3) = z := ⟨_, rfl⟩
  obtain ⟨G, hG⟩ : ∃ z : Nat → Gau, (fun n => if bkAll Y 4 = true then bkG (Y n) else Gau.zero) = z := ⟨_, rfl⟩
  rw [hV, hG]
  have HV := hide hV
  have HG := hide hG
  clear hV hG
  go_enter Try.func8, Try.ntmps8
  go_upto_region 1 with (first
    | (refine wpList_boxTo rfl 24 (.tmp 0) rfl _ rfl w.heap.size rfl (arrG4 X) rfl ?_; obtain ⟨W0, hW0⟩ : ∃ q : World, w.alloc (.cells (arrG4 X) 24) = q := ⟨_, rfl⟩; rw [hW0])
    | (refine wpList_allocTo rfl (some 2) rfl (.pointer (some ⟨W0.heap.size, 0, none⟩)) (.cells (arrG4 fun _ => Gau.zero) 24) (by kernel_rfl) ?_))
  have x0 : ArrG4 W0 w.heap.size X := by rw [← hW0]; exact ArrG4.at_alloc w _ _ rfl
  have hB0 : Below w.heap.size w W0 := by rw [← hW0]; (repeat (first | (with_reducible exact Below.refl _ _) | (with_reducible refine Go.below_drewN ?_ _) | (with_reducible refine Below.drew ?_) | (with_reducible refine Below.alloc ?_ (by first | exact Nat.le_refl _ | (simp; done) | (simp; omega) | omega) _) | (with_reducible refine Below.setCell ?_ (by first | exact Nat.le_refl _ | (simp; done) | (simp; omega) | omega) _)))
  have hs0 : w.heap.size < W0.heap.size := by rw [← hW0]; simp
  clear hW0
  obtain ⟨b0, hb0⟩ : ∃ g, w.heap.size = g := ⟨_, rfl⟩
  obtain ⟨b1, hb1⟩ : ∃ g, W0.heap.size = g := ⟨_, rfl⟩
  obtain ⟨W1, hW1⟩ : ∃ q : World, q = W0.alloc (.cells (arrG4 fun _ => Gau.zero) 24) := ⟨_, rfl⟩
  rw [← hW1]
  have r1 : ArrG4 W1 b1 (fun _ => Gau.zero) := by rw [hW1]; exact ArrG4.at_alloc W0 _ _ hb1.symm
  have x1 : ArrG4 W1 b0 X := by rw [hW1, ← hb0]; exact x0.alloc _
  have hB1 : Below b0 w W1 := by rw [hW1, ← hb0]; exact hB0.alloc hB0.size _
  have hs1 : b1 < W1.heap.size := by rw [hW1, ← hb1]; simp
  have h01' : b0 ≤ b1 := by omega
  have HW0 := hide hb0
  simp only [hb0, hb1]
  clear hW1 x0 hB0
  go_upto_region 2 with (refine wpList_allocTo rfl (some 4) rfl (.pointer (some ⟨W1.heap.size, 0, none⟩)) (.cells (arrG4 fun _ => Gau.zero) 24) (by kernel_rfl) ?_)
  obtain ⟨b5, hb5⟩ : ∃ g, W1.heap.size = g := ⟨_, rfl⟩
  obtain ⟨W3, hW3⟩ : ∃ q : World, q = W1.alloc (.cells (arrG4 fun _ => Gau.zero) 24) := ⟨_, rfl⟩
  rw [← hW3]
  simp only [hb5]
  have a3 : ArrG4 W3 b5 (fun _ => Gau.zero) := by rw [hW3]; exact ArrG4.at_alloc W1 _ _ hb5.symm
  replace r1 : ArrG4 W3 b1 (fun _ => Gau.zero) := by rw [hW3]; exact r1.alloc _
  replace x1 : ArrG4 W3 b0 X := by rw [hW3]; exact x1.alloc _
  have hB3 : Below b0 w W3 := by rw [hW3]; exact hB1.alloc (by omega) _
  have hw5 : b0 ≤ b5 := by omega
  have hz5 : b1 ≠ b5 := by omega
  have hx5 : b0 ≠ b5 := by omega
  clear hW3 hB1 hs0 hs1 hb5
  go_wp2_with fail
  go_loopw [5] (fun i wr => ∃ k : Nat, k ≤ 4 ∧ i = .int .i64 (k : Int) ∧ bkAll Y k = true ∧ ArrG4 wr b1 (fun _ => Gau.zero) ∧ ArrG4 wr b0 X ∧ ArrG4 wr b5 (fun q => if q < k then bkG (Y q) else Gau.zero) ∧ Below b0 w wr) (fun i _ => 4 - (Go.RowKit.intOf i).toNat)
  case atStart => exact ⟨0, by decide, rfl, rfl, r1, x1, a3.congr fun q _ => by rw [if_neg (Nat.not_lt_zero q)], hB3⟩
  case round =>
    clear r1 a3 hB3 x1
    obtain ⟨k, hk, rfl, hS, hZ, hXA, hA, hB⟩ := hrel
    obtain ⟨wA, rfl⟩ : ∃ q : World, q = wr := ⟨_, rfl⟩
    have HS := hide hS
    clear hS
    by_cases hk4 : k < 4
    · have hk4z : (k : Int) < 4 := by omega
      obtain ⟨E, hE⟩ : ∃ E : Nat → Gau, E = fun q => if q < k then bkG (Y q) else Gau.zero := ⟨_, rfl⟩
      have HE := hide hE
      rw [← hE] at hA
      clear hE
      go_upto_region 6 with fail
      obtain ⟨g6, hg6⟩ : ∃ g, wA.heap.size = g := ⟨_, rfl⟩
      obtain ⟨W6, hW6⟩ : ∃ q : World, q = wA.alloc (.cells #[.int .i64 0, .int .i64 0] 23) := ⟨_, rfl⟩
      rw [← hW6]
      have b6 : Box W6 g6 23 #[.int .i64 0, .int .i64 0] := by rw [hW6]; exact Box.made hg6.symm
      have h06 : b0 ≤ g6 := by have := hXA.lt; omega
      have h16 : b1 ≠ g6 := by have := hZ.lt; omega
      have h56 : b5 ≠ g6 := by have := hA.lt; omega
      have hx6 : b0 ≠ g6 := by have := hXA.lt; omega
      replace hA : ArrG4 W6 b5 E := by rw [hW6]; exact hA.alloc _
      replace hZ : ArrG4 W6 b1 (fun _ => Gau.zero) := by rw [hW6]; exact hZ.alloc _
      replace hXA : ArrG4 W6 b0 X := by rw [hW6]; exact hXA.alloc _
      have hB6 : Below b0 w W6 := by rw [hW6]; exact hB.alloc (by omega) _
      try simp only [hg6]
      clear hW6 hB hg6
      go_wp2_with fail
      go_loopw [7] (fun x wr => ∃ j : Nat, j ≤ 4 ∧ x = .int .i64 (j : Int) ∧ Box wr g6 23 #[.int .i64 (fTo X (-1) k j).re, .int .i64 (fTo X (-1) k j).im] ∧ ArrG4 wr b1 (fun _ => Gau.zero) ∧ ArrG4 wr b0 X ∧ ArrG4 wr b5 E ∧ Below b0 w wr) (fun x _ => 4 - (Go.RowKit.intOf x).toNat)
      case atStart => exact ⟨0, Nat.zero_le _, rfl, b6, hZ, hXA, hA, hB6⟩
      case round =>
        clear hZ hA hB6 hXA b6
        obtain ⟨j, hj, rfl, hG6, hZ, hXA, hA, hB⟩ := hrel
        obtain ⟨wB, rfl⟩ : ∃ q : World, q = wr := ⟨_, rfl⟩
        by_cases hjn : j < 4
        · have hjz : (j : Int) < 4 := by omega
          have hsw := HFT.out k j (by omega)
          have hr := mul_within (M := 3) (N := 3) (a := -(k : Int)) (b := (j : Int)) (by omega) (by omega)
          have q1 : IntKind.i64.wrap (-(k : Int)) = -(k : Int) := IntWalk.i64_in _ (by omega)
          have HTT := hide (show fTo X (-1) k (j + 1) = ⟨(fTo X (-1) k j).re + (itm (X j) (((-1) * (k : Int) * (j : Int)) % 4).toNat).re, (fTo X (-1) k j).im + (itm (X j) (((-1) * (k : Int) * (j : Int)) % 4).toNat).im⟩ from rfl)
          rw [show (-1) * (k : Int) * (j : Int) = -(k : Int) * (j : Int) by rw [show (-1 : Int) * (k : Int) = -(k : Int) by omega]] at HTT
          obtain ⟨e, he⟩ : ∃ e, -(k : Int) * (j : Int) = e := ⟨_, rfl⟩
          rw [he] at hr HTT
          have q2 : IntKind.i64.wrap (-(k : Int) * (j : Int)) = e := by rw [he]; exact IntWalk.i64_in _ (by omega)
          obtain ⟨q, hq⟩ : ∃ q : Nat, (q : Int) = e % 4 := ⟨(e % 4).toNat, by omega⟩
          have hq4 : q < 4 := by omega
          rw [← hq, show ((q : Int)).toNat = q from rfl] at HTT
          have hxw := HX.out j hjn
          obtain ⟨x, hx⟩ : ∃ z, X j = z := ⟨_, rfl⟩
          rw [hx] at hxw HTT
          have hiw := itm_within hq4 hxw
          have HPW := hide (fun W => powerU_any e q W hq)
          simp only [powU_four hq4] at HPW
          have hcw : (⟨cosI q, sinI q⟩ : Gau).Within 1 := by rw [← powU_four hq4]; exact powU_within q
          have HMU := hide (fun W => gmulU_any x ⟨cosI q, sinI q⟩ 1000000000 1 W hxw hcw (by decide))
          simp only at HMU
          have HIT := hide (show itm x q = ⟨x.re * cosI q - x.im * sinI q, x.re * sinI q + x.im * cosI q⟩ from rfl)
          rw [HIT.out] at hiw HTT
          simp only at HTT
          obtain ⟨u1, hu1⟩ : ∃ z, x.re * cosI q - x.im * sinI q = z := ⟨_, rfl⟩
          obtain ⟨u2, hu2⟩ : ∃ z, x.re * sinI q + x.im * cosI q = z := ⟨_, rfl⟩
          simp only [hu1, hu2] at HMU HTT hiw
          clear hu1 hu2 HIT
          obtain ⟨cq, hcq⟩ : ∃ z, cosI q = z := ⟨_, rfl⟩
          obtain ⟨sq, hsq⟩ : ∃ z, sinI q = z := ⟨_, rfl⟩
          simp only [hcq, hsq] at HPW HMU
          clear hcq hsq hcw
          obtain ⟨s, hs⟩ : ∃ z, fTo X (-1) k j = z := ⟨_, rfl⟩
          rw [hs] at hG6 hsw HTT
          have HAD := hide (fun W => gadd_any s ⟨u1, u2⟩ W (by have := hsw.re; have := hiw.re; simp only at this ⊢; omega) (by have := hsw.im; have := hiw.im; simp only at this ⊢; omega))
          simp only at HAD
          obtain ⟨s1, hs1⟩ : ∃ z, s.re = z := ⟨_, rfl⟩
          obtain ⟨s2, hs2⟩ : ∃ z, s.im = z := ⟨_, rfl⟩
          simp only [hs1, hs2] at HAD HTT hG6
          obtain ⟨t1, ht1⟩ : ∃ z, s1 + u1 = z := ⟨_, rfl⟩
          obtain ⟨t2, ht2⟩ : ∃ z, s2 + u2 = z := ⟨_, rfl⟩
          simp only [ht1, ht2] at HAD HTT
          obtain ⟨xr, hxr⟩ : ∃ z, x.re = z := ⟨_, rfl⟩
          obtain ⟨xi, hxi⟩ : ∃ z, x.im = z := ⟨_, rfl⟩
          simp only [hxr, hxi] at HMU
          have HPC := hide (fun W (h : ArrG4 W b0 X) => (show W.cell? ⟨b0, j * 2, none⟩ = some (.int .i64 xr) ∧ W.cell? ⟨b0, j * 2 + 1, none⟩ = some (.int .i64 xi) from by rw [← hxr, ← hxi, ← hx]; exact h.cells hjn))
          clear hs hs1 hs2 ht1 ht2 hxr hxi hx hsw hiw hxw hr he hq
          obtain ⟨z0, z1, f0, f1, hl⟩ := hG6.cells2
          obtain ⟨p0, p1⟩ := HPC.out _ hXA
          go_upto_region 9 with fail
          refine wp_region_held_drew (S := fun w' => w'.cell? ⟨b0, j * 2, none⟩ = some (.int .i64 xr) ∧ w'.cell? ⟨b0, j * 2 + 1, none⟩ = some (.int .i64 xi)) (by kernel_rfl) ⟨p0, p1⟩ (fun hHeld => ?_)
          refine wpAnyH_take (i := 1) (oi := ⟨some 17, _, _, _, _, _⟩) (v := ?_) rfl (by kernel_rfl) (by kernel_rfl) (by kernel_rfl) (fun _ _ _ h => h) (Or.inl ⟨by rfl, ?_⟩) (by assumption) ?_
          rotate_left
          · (intro w' hSw; (try dsimp only at hSw); go_simp <;> (with_reducible rfl))
          try simp only [Act.put, List.setIfInBounds_toArray, List.set_cons_zero, List.set_cons_succ]
          refine wpAnyH_take (i := 2) (oi := ⟨some 18, _, _, _, _, _⟩) (v := ?_) rfl (by kernel_rfl) (by kernel_rfl) (by kernel_rfl) (fun _ _ _ h => h) (Or.inl ⟨by rfl, ?_⟩) (by assumption) ?_
          rotate_left
          · (intro w' hSw; (try dsimp only at hSw); go_simp <;> (with_reducible rfl))
          try simp only [Act.put, List.setIfInBounds_toArray, List.set_cons_zero, List.set_cons_succ]
          refine wpAnyH_take (i := 3) (oi := ⟨some 19, _, _, _, _, _⟩) (v := ?_) rfl (by kernel_rfl) (by kernel_rfl) (by kernel_rfl) (fun _ _ _ h => h) (Or.inl ⟨by rfl, ?_⟩) (by assumption) ?_
          rotate_left
          · (intro w' hSw; (try dsimp only at hSw); go_simp <;> (with_reducible rfl))
          try simp only [Act.put, List.setIfInBounds_toArray, List.set_cons_zero, List.set_cons_succ]
          refine wpAnyH_take (i := 4) (oi := ⟨some 20, _, _, _, _, _⟩) (v := ?_) rfl (by kernel_rfl) (by kernel_rfl) (by kernel_rfl) (fun _ _ _ h => h) (Or.inl ⟨by rfl, ?_⟩) (by assumption) ?_
          rotate_left
          · (intro w' hSw; (try dsimp only at hSw); go_simp <;> (with_reducible rfl))
          try simp only [Act.put, List.setIfInBounds_toArray, List.set_cons_zero, List.set_cons_succ]
          refine wpAnyH_take (i := 5) (oi := ⟨some 21, _, _, _, _, _⟩) (v := ?_) rfl (by kernel_rfl) (by kernel_rfl) (by kernel_rfl) (fun _ _ _ h => h) (Or.inl ⟨by rfl, ?_⟩) (by assumption) ?_
          rotate_left
          · (intro w' hSw; (try dsimp only at hSw); go_simp <;> (with_reducible rfl))
          try simp only [Act.put, List.setIfInBounds_toArray, List.set_cons_zero, List.set_cons_succ]
          refine wpAnyH_take (i := 6) (oi := ⟨some 22, _, _, _, _, _⟩) (v := ?_) rfl (by kernel_rfl) (by kernel_rfl) (by kernel_rfl) (fun _ _ _ h => h) (Or.inl ⟨by rfl, ?_⟩) (by assumption) ?_
          rotate_left
          · (intro w' hSw; (try dsimp only at hSw); go_simp <;> (with_reducible rfl))
          try simp only [Act.put, List.setIfInBounds_toArray, List.set_cons_zero, List.set_cons_succ]
          refine wpAnyH_take (i := 7) (oi := ⟨some 23, _, _, _, _, _⟩) (v := ?_) rfl (by kernel_rfl) (by kernel_rfl) (by kernel_rfl) (fun _ _ _ h => h) (Or.inl ⟨by rfl, ?_⟩) (by assumption) ?_
          rotate_left
          · (intro w' hSw; (try dsimp only at hSw); go_simp <;> (with_reducible rfl))
          try simp only [Act.put, List.setIfInBounds_toArray, List.set_cons_zero, List.set_cons_succ]
          refine wpAnyH_ready (rs := [0, 8]) (by kernel_rfl) (by simp) ?_
          refine AllReadyH.cons (o := ⟨some 16, _, _, _, _, _⟩) rfl (fun K' hK => ?_) (AllReadyH.cons (o := ⟨some 24, _, _, _, _, _⟩) rfl (fun K' hK => ?_) AllReadyH.nil)
          · skip
            go_simp
            refine hK.out _ _ ⟨p0, p1⟩ (fun hHeld => ?_)
            clear hK K'
            try simp only [Act.put, List.setIfInBounds_toArray, List.set_cons_zero, List.set_cons_succ]
            refine wpAnyH_ready (rs := [8]) (by kernel_rfl) (by simp) ?_
            refine AllReadyH.cons (o := ⟨some 24, _, _, _, _, _⟩) rfl (fun K' hK => ?_) AllReadyH.nil
            go_simp
            go_at_call 19
            refine (HPW.out _).mono ?_
            rintro r' v2 ⟨rfl, hb2⟩
            have hc2 : Below wB.heap.size wB v2 := by first | exact hb2 | exact below_of_drew hb2 | exact below_of_drew (below_of_drew hb2)
            have A2 := hA.below hc2
            have Z2 := hZ.below hc2
            have B2 := hXA.below hc2
            have S2 := hG6.below hc2
            have hB2_ := hB.trans (hc2.mono (Nat.le_of_lt hXA.lt))
            clear z0 z1 f0 f1 hl p0 p1
            obtain ⟨z0, z1, f0, f1, hl⟩ := S2.cells2
            obtain ⟨p0, p1⟩ := HPC.out _ B2
            go_wp2_with fail
            refine hK.out _ _ ⟨p0, p1⟩ (fun hHeld => ?_)
            clear hK K'
            try simp only [Act.put, List.setIfInBounds_toArray, List.set_cons_zero, List.set_cons_succ]
            refine wpAnyH_ready (rs := [9]) (by kernel_rfl) (by simp) ?_
            refine AllReadyH.cons (o := ⟨some 25, _, _, _, _, _⟩) rfl (fun K' hK => ?_) AllReadyH.nil
            go_simp
            go_at_call 18
            refine (HMU.out _).mono ?_
            rintro r' v3 ⟨rfl, hb3⟩
            have hc3 : Below v2.heap.size v2 v3 := by first | exact hb3 | exact below_of_drew hb3 | exact below_of_drew (below_of_drew hb3)
            have A3 := A2.below hc3
            have Z3 := Z2.below hc3
            have B3 := B2.below hc3
            have S3 := S2.below hc3
            have hB3_ := hB2_.trans (hc3.mono (Nat.le_of_lt B2.lt))
            clear z0 z1 f0 f1 hl p0 p1
            obtain ⟨z0, z1, f0, f1, hl⟩ := S3.cells2
            obtain ⟨p0, p1⟩ := HPC.out _ B3
            go_wp2_with fail
            refine hK.out _ _ ⟨p0, p1⟩ (fun hHeld => ?_)
            clear hK K'
            try simp only [Act.put, List.setIfInBounds_toArray, List.set_cons_zero, List.set_cons_succ]
            refine wpAnyH_ready (rs := [10]) (by kernel_rfl) (by simp) ?_
            refine AllReadyH.cons (o := ⟨some 26, _, _, _, _, _⟩) rfl (fun K' hK => ?_) AllReadyH.nil
            go_simp
            go_at_call 17
            refine (HAD.out _).mono ?_
            rintro r' v4 ⟨rfl, hb4⟩
            have hc4 : Below v3.heap.size v3 v4 := by first | exact hb4 | exact below_of_drew hb4 | exact below_of_drew (below_of_drew hb4)
            have A4 := A3.below hc4
            have Z4 := Z3.below hc4
            have B4 := B3.below hc4
            have S4 := S3.below hc4
            have hB4_ := hB3_.trans (hc4.mono (Nat.le_of_lt B3.lt))
            clear z0 z1 f0 f1 hl p0 p1
            obtain ⟨z0, z1, f0, f1, hl⟩ := S4.cells2
            obtain ⟨p0, p1⟩ := HPC.out _ B4
            go_wp2_with fail
            refine hK.out _ _ ⟨p0, p1⟩ (fun hHeld => ?_)
            clear hK K'
            try simp only [Act.put, List.setIfInBounds_toArray, List.set_cons_zero, List.set_cons_succ]
            refine wpAnyH_ready (rs := [11]) (by kernel_rfl) (by simp) ?_
            refine AllReadyH.cons (o := ⟨none, _, _, _, _, _⟩) rfl (fun K' hK => ?_) AllReadyH.nil
            go_simp
            have HL5 := hide ((hB4_.setCell (p := ⟨g6, 0, none⟩) h06 (.int .i64 t1)).setCell (p := ⟨g6, 1, none⟩) h06 (.int .i64 t2))
            have HG5 := hide (show Box ((v4.setCell ⟨g6, 0, none⟩ (.int .i64 t1)).setCell ⟨g6, 1, none⟩ (.int .i64 t2)) g6 23 #[.int .i64 t1, .int .i64 t2] from by have := (S4.set_ 0 (.int .i64 t1)).set_ 1 (.int .i64 t2); simpa using this)
            have HA5 := hide (show ArrG4 ((v4.setCell ⟨g6, 0, none⟩ (.int .i64 t1)).setCell ⟨g6, 1, none⟩ (.int .i64 t2)) b5 E from (World.rowIs.setOther A4 (a := ⟨g6, 0, none⟩) h56 _).setOther (a := ⟨g6, 1, none⟩) h56 _)
            have HZ5 := hide (show ArrG4 ((v4.setCell ⟨g6, 0, none⟩ (.int .i64 t1)).setCell ⟨g6, 1, none⟩ (.int .i64 t2)) b1 (fun _ => Gau.zero) from (World.rowIs.setOther Z4 (a := ⟨g6, 0, none⟩) h16 _).setOther (a := ⟨g6, 1, none⟩) h16 _)
            have HB5 := hide (show ArrG4 ((v4.setCell ⟨g6, 0, none⟩ (.int .i64 t1)).setCell ⟨g6, 1, none⟩ (.int .i64 t2)) b0 X from (World.rowIs.setOther B4 (a := ⟨g6, 0, none⟩) hx6 _).setOther (a := ⟨g6, 1, none⟩) hx6 _)
            refine hK.out _ _ (by obtain ⟨p0, p1⟩ := HPC.out _ HB5.out; exact ⟨p0, p1⟩) (fun hHeld => ?_)
            clear hK K'
            try simp only [Act.put, List.setIfInBounds_toArray, List.set_cons_zero, List.set_cons_succ]
            clear z0 z1 f0 f1 hl p0 p1
            refine wpAnyH_done (by kernel_rfl) ?_ _
            go_wp2_with fail
            go_roundw
            case rel => exact ⟨j + 1, by omega, by go_num, by rw [HTT.out]; exact HG5.out, HZ5.out, HB5.out, HA5.out, HL5.out⟩
            case measure => simp [Go.RowKit.intOf]; omega
          · skip
            go_simp
            go_at_call 19
            refine (HPW.out _).mono ?_
            rintro r' v6 ⟨rfl, hb6⟩
            have hc6 : Below wB.heap.size wB v6 := by first | exact hb6 | exact below_of_drew hb6 | exact below_of_drew (below_of_drew hb6)
            have A6 := hA.below hc6
            have Z6 := hZ.below hc6
            have B6 := hXA.below hc6
            have S6 := hG6.below hc6
            have hB6_ := hB.trans (hc6.mono (Nat.le_of_lt hXA.lt))
            clear z0 z1 f0 f1 hl p0 p1
            obtain ⟨z0, z1, f0, f1, hl⟩ := S6.cells2
            obtain ⟨p0, p1⟩ := HPC.out _ B6
            go_wp2_with fail
            refine hK.out _ _ ⟨p0, p1⟩ (fun hHeld => ?_)
            clear hK K'
            try simp only [Act.put, List.setIfInBounds_toArray, List.set_cons_zero, List.set_cons_succ]
            refine wpAnyH_ready (rs := [0, 9]) (by kernel_rfl) (by simp) ?_
            refine AllReadyH.cons (o := ⟨some 16, _, _, _, _, _⟩) rfl (fun K' hK => ?_) (AllReadyH.cons (o := ⟨some 25, _, _, _, _, _⟩) rfl (fun K' hK => ?_) AllReadyH.nil)
            · skip
              go_simp
              refine hK.out _ _ ⟨p0, p1⟩ (fun hHeld => ?_)
              clear hK K'
              try simp only [Act.put, List.setIfInBounds_toArray, List.set_cons_zero, List.set_cons_succ]
              refine wpAnyH_ready (rs := [9]) (by kernel_rfl) (by simp) ?_
              refine AllReadyH.cons (o := ⟨some 25, _, _, _, _, _⟩) rfl (fun K' hK => ?_) AllReadyH.nil
              go_simp
              go_at_call 18
              refine (HMU.out _).mono ?_
              rintro r' v8 ⟨rfl, hb8⟩
              have hc8 : Below v6.heap.size v6 v8 := by first | exact hb8 | exact below_of_drew hb8 | exact below_of_drew (below_of_drew hb8)
              have A8 := A6.below hc8
              have Z8 := Z6.below hc8
              have B8 := B6.below hc8
              have S8 := S6.below hc8
              have hB8_ := hB6_.trans (hc8.mono (Nat.le_of_lt B6.lt))
              clear z0 z1 f0 f1 hl p0 p1
              obtain ⟨z0, z1, f0, f1, hl⟩ := S8.cells2
              obtain ⟨p0, p1⟩ := HPC.out _ B8
              go_wp2_with fail
              refine hK.out _ _ ⟨p0, p1⟩ (fun hHeld => ?_)
              clear hK K'
              try simp only [Act.put, List.setIfInBounds_toArray, List.set_cons_zero, List.set_cons_succ]
              refine wpAnyH_ready (rs := [10]) (by kernel_rfl) (by simp) ?_
              refine AllReadyH.cons (o := ⟨some 26, _, _, _, _, _⟩) rfl (fun K' hK => ?_) AllReadyH.nil
              go_simp
              go_at_call 17
              refine (HAD.out _).mono ?_
              rintro r' v9 ⟨rfl, hb9⟩
              have hc9 : Below v8.heap.size v8 v9 := by first | exact hb9 | exact below_of_drew hb9 | exact below_of_drew (below_of_drew hb9)
              have A9 := A8.below hc9
              have Z9 := Z8.below hc9
              have B9 := B8.below hc9
              have S9 := S8.below hc9
              have hB9_ := hB8_.trans (hc9.mono (Nat.le_of_lt B8.lt))
              clear z0 z1 f0 f1 hl p0 p1
              obtain ⟨z0, z1, f0, f1, hl⟩ := S9.cells2
              obtain ⟨p0, p1⟩ := HPC.out _ B9
              go_wp2_with fail
              refine hK.out _ _ ⟨p0, p1⟩ (fun hHeld => ?_)
              clear hK K'
              try simp only [Act.put, List.setIfInBounds_toArray, List.set_cons_zero, List.set_cons_succ]
              refine wpAnyH_ready (rs := [11]) (by kernel_rfl) (by simp) ?_
              refine AllReadyH.cons (o := ⟨none, _, _, _, _, _⟩) rfl (fun K' hK => ?_) AllReadyH.nil
              go_simp
              have HL10 := hide ((hB9_.setCell (p := ⟨g6, 0, none⟩) h06 (.int .i64 t1)).setCell (p := ⟨g6, 1, none⟩) h06 (.int .i64 t2))
              have HG10 := hide (show Box ((v9.setCell ⟨g6, 0, none⟩ (.int .i64 t1)).setCell ⟨g6, 1, none⟩ (.int .i64 t2)) g6 23 #[.int .i64 t1, .int .i64 t2] from by have := (S9.set_ 0 (.int .i64 t1)).set_ 1 (.int .i64 t2); simpa using this)
              have HA10 := hide (show ArrG4 ((v9.setCell ⟨g6, 0, none⟩ (.int .i64 t1)).setCell ⟨g6, 1, none⟩ (.int .i64 t2)) b5 E from (World.rowIs.setOther A9 (a := ⟨g6, 0, none⟩) h56 _).setOther (a := ⟨g6, 1, none⟩) h56 _)
              have HZ10 := hide (show ArrG4 ((v9.setCell ⟨g6, 0, none⟩ (.int .i64 t1)).setCell ⟨g6, 1, none⟩ (.int .i64 t2)) b1 (fun _ => Gau.zero) from (World.rowIs.setOther Z9 (a := ⟨g6, 0, none⟩) h16 _).setOther (a := ⟨g6, 1, none⟩) h16 _)
              have HB10 := hide (show ArrG4 ((v9.setCell ⟨g6, 0, none⟩ (.int .i64 t1)).setCell ⟨g6, 1, none⟩ (.int .i64 t2)) b0 X from (World.rowIs.setOther B9 (a := ⟨g6, 0, none⟩) hx6 _).setOther (a := ⟨g6, 1, none⟩) hx6 _)
              refine hK.out _ _ (by obtain ⟨p0, p1⟩ := HPC.out _ HB10.out; exact ⟨p0, p1⟩) (fun hHeld => ?_)
              clear hK K'
              try simp only [Act.put, List.setIfInBounds_toArray, List.set_cons_zero, List.set_cons_succ]
              clear z0 z1 f0 f1 hl p0 p1
              refine wpAnyH_done (by kernel_rfl) ?_ _
              go_wp2_with fail
              go_roundw
              case rel => exact ⟨j + 1, by omega, by go_num, by rw [HTT.out]; exact HG10.out, HZ10.out, HB10.out, HA10.out, HL10.out⟩
              case measure => simp [Go.RowKit.intOf]; omega
            · skip
              go_simp
              go_at_call 18
              refine (HMU.out _).mono ?_
              rintro r' v11 ⟨rfl, hb11⟩
              have hc11 : Below v6.heap.size v6 v11 := by first | exact hb11 | exact below_of_drew hb11 | exact below_of_drew (below_of_drew hb11)
              have A11 := A6.below hc11
              have Z11 := Z6.below hc11
              have B11 := B6.below hc11
              have S11 := S6.below hc11
              have hB11_ := hB6_.trans (hc11.mono (Nat.le_of_lt B6.lt))
              clear z0 z1 f0 f1 hl p0 p1
              obtain ⟨z0, z1, f0, f1, hl⟩ := S11.cells2
              obtain ⟨p0, p1⟩ := HPC.out _ B11
              go_wp2_with fail
              refine hK.out _ _ ⟨p0, p1⟩ (fun hHeld => ?_)
              clear hK K'
              try simp only [Act.put, List.setIfInBounds_toArray, List.set_cons_zero, List.set_cons_succ]
              refine wpAnyH_ready (rs := [0]) (by kernel_rfl) (by simp) ?_
              refine AllReadyH.cons (o := ⟨some 16, _, _, _, _, _⟩) rfl (fun K' hK => ?_) AllReadyH.nil
              go_simp
              refine hK.out _ _ ⟨p0, p1⟩ (fun hHeld => ?_)
              clear hK K'
              try simp only [Act.put, List.setIfInBounds_toArray, List.set_cons_zero, List.set_cons_succ]
              refine wpAnyH_ready (rs := [10]) (by kernel_rfl) (by simp) ?_
              refine AllReadyH.cons (o := ⟨some 26, _, _, _, _, _⟩) rfl (fun K' hK => ?_) AllReadyH.nil
              go_simp
              go_at_call 17
              refine (HAD.out _).mono ?_
              rintro r' v13 ⟨rfl, hb13⟩
              have hc13 : Below v11.heap.size v11 v13 := by first | exact hb13 | exact below_of_drew hb13 | exact below_of_drew (below_of_drew hb13)
              have A13 := A11.below hc13
              have Z13 := Z11.below hc13
              have B13 := B11.below hc13
              have S13 := S11.below hc13
              have hB13_ := hB11_.trans (hc13.mono (Nat.le_of_lt B11.lt))
              clear z0 z1 f0 f1 hl p0 p1
              obtain ⟨z0, z1, f0, f1, hl⟩ := S13.cells2
              obtain ⟨p0, p1⟩ := HPC.out _ B13
              go_wp2_with fail
              refine hK.out _ _ ⟨p0, p1⟩ (fun hHeld => ?_)
              clear hK K'
              try simp only [Act.put, List.setIfInBounds_toArray, List.set_cons_zero, List.set_cons_succ]
              refine wpAnyH_ready (rs := [11]) (by kernel_rfl) (by simp) ?_
              refine AllReadyH.cons (o := ⟨none, _, _, _, _, _⟩) rfl (fun K' hK => ?_) AllReadyH.nil
              go_simp
              have HL14 := hide ((hB13_.setCell (p := ⟨g6, 0, none⟩) h06 (.int .i64 t1)).setCell (p := ⟨g6, 1, none⟩) h06 (.int .i64 t2))
              have HG14 := hide (show Box ((v13.setCell ⟨g6, 0, none⟩ (.int .i64 t1)).setCell ⟨g6, 1, none⟩ (.int .i64 t2)) g6 23 #[.int .i64 t1, .int .i64 t2] from by have := (S13.set_ 0 (.int .i64 t1)).set_ 1 (.int .i64 t2); simpa using this)
              have HA14 := hide (show ArrG4 ((v13.setCell ⟨g6, 0, none⟩ (.int .i64 t1)).setCell ⟨g6, 1, none⟩ (.int .i64 t2)) b5 E from (World.rowIs.setOther A13 (a := ⟨g6, 0, none⟩) h56 _).setOther (a := ⟨g6, 1, none⟩) h56 _)
              have HZ14 := hide (show ArrG4 ((v13.setCell ⟨g6, 0, none⟩ (.int .i64 t1)).setCell ⟨g6, 1, none⟩ (.int .i64 t2)) b1 (fun _ => Gau.zero) from (World.rowIs.setOther Z13 (a := ⟨g6, 0, none⟩) h16 _).setOther (a := ⟨g6, 1, none⟩) h16 _)
              have HB14 := hide (show ArrG4 ((v13.setCell ⟨g6, 0, none⟩ (.int .i64 t1)).setCell ⟨g6, 1, none⟩ (.int .i64 t2)) b0 X from (World.rowIs.setOther B13 (a := ⟨g6, 0, none⟩) hx6 _).setOther (a := ⟨g6, 1, none⟩) hx6 _)
              refine hK.out _ _ (by obtain ⟨p0, p1⟩ := HPC.out _ HB14.out; exact ⟨p0, p1⟩) (fun hHeld => ?_)
              clear hK K'
              try simp only [Act.put, List.setIfInBounds_toArray, List.set_cons_zero, List.set_cons_succ]
              clear z0 z1 f0 f1 hl p0 p1
              refine wpAnyH_done (by kernel_rfl) ?_ _
              go_wp2_with fail
              go_roundw
              case rel => exact ⟨j + 1, by omega, by go_num, by rw [HTT.out]; exact HG14.out, HZ14.out, HB14.out, HA14.out, HL14.out⟩
              case measure => simp [Go.RowKit.intOf]; omega
        · obtain rfl : j = 4 := by omega
          rw [HY.out] at hG6
          have HOC := hide (okB_cases (Y k))
          have HOF := hide (fun (h : okB (Y k) = false) => bkAll_false hk4 h)
          have HON := hide (fun (h : okB (Y k) = true) => (show bkAll Y (k + 1) = true from by show (bkAll Y k && okB (Y k)) = true; rw [HS.out, h]; rfl))
          have hyw := HYY.out k
          have HPU := hide (show ∀ q, q < 4 → setG4 E k (bkG (Y k)) q = if q < k + 1 then bkG (Y q) else Gau.zero from fun q _ => by
            show (if q = k then _ else E q) = _
            by_cases e : q = k
            · subst e; rw [if_pos rfl, if_pos (by omega)]
            · rw [if_neg e, HE.out]
              show (if q < k then _ else Gau.zero) = _
              by_cases e2 : q < k
              · rw [if_pos e2, if_pos (by omega)]
              · rw [if_neg e2, if_neg (by omega)])
          obtain ⟨y, hy⟩ : ∃ z, Y k = z := ⟨_, rfl⟩
          rw [hy] at hyw HPU HOC HOF HON hG6
          clear hy
          obtain ⟨e0, e1, -⟩ := hG6.cells2
          rcases HOC.out with ⟨hok, h1, h2⟩ | ⟨hok, hc⟩
          · have HON1 := hide (HON.out hok)
            have t1 : (y.re.tmod 4 != 0) = false := by simpa using h1
            have t2 : (y.im.tmod 4 != 0) = false := by simpa using h2
            have q1 := tdiv4_size hyw.re
            have q2 := tdiv4_size hyw.im
            obtain ⟨p, hp⟩ : ∃ z, y.re.tdiv 4 = z := ⟨_, rfl⟩
            obtain ⟨r, hr⟩ : ∃ z, y.im.tdiv 4 = z := ⟨_, rfl⟩
            have hG : bkG y = ⟨p, r⟩ := by unfold bkG; rw [hp, hr]
            rw [hG] at HPU
            rw [hp] at q1
            rw [hr] at q2
            clear hok h1 h2 hG HON HOF HOC hyw
            obtain ⟨z0, z1⟩ := hA.cells hk4
            obtain ⟨f0, f1⟩ := hA.frozen2 k
            have HA2 := hide (show ArrG4 ((wB.setCell ⟨b5, k * 2, none⟩ (.int .i64 p)).setCell ⟨b5, k * 2 + 1, none⟩ (.int .i64 r)) b5 (setG4 E k ⟨p, r⟩) from hA.put k ⟨p, r⟩)
            have HZ2 := hide (hZ.other (c := b5) (o := k * 2) hz5 (.int .i64 p) (.int .i64 r))
            have HX2 := hide (hXA.other (c := b5) (o := k * 2) hx5 (.int .i64 p) (.int .i64 r))
            have HL2 := hide ((hB.setCell (p := ⟨b5, k * 2, none⟩) hw5 (.int .i64 p)).setCell (p := ⟨b5, k * 2 + 1, none⟩) hw5 (.int .i64 r))
            go_wp2_with fail
            go_roundw
            case rel => exact ⟨k + 1, by omega, by go_num, HON1.out, HZ2.out, HX2.out, HA2.out.congr HPU.out, HL2.out⟩
            case measure => simp [Go.RowKit.intOf]; omega
          · have hG : G = fun _ => Gau.zero := HG.out.symm.trans (funext fun n => if_neg (by rw [HOF.out hok]; decide))
            have hV : V = 3 := HV.out.symm.trans (if_neg (by rw [HOF.out hok]; decide))
            subst hG
            subst hV
            have HZ3 := hide hZ
            have hs3 : b1 < wB.heap.size := hZ.lt
            clear hok HON HOF HOC hyw HPU HG HV
            rcases hc with h1 | ⟨h1, h2⟩
            · have t1 : (y.re.tmod 4 != 0) = true := by simpa using h1
              clear h1
              go_upto_region 11 with fail
              have hz8 : ∀ a : Act, (execOp a.eval (⟨some 37, .build 24 #[], 24, "", #[], none⟩ : Oper)).run Try.prog wB = .ok (.value (.agg (arrG4 fun _ => Gau.zero))) wB := fun a => by kernel_rfl
              go_wp2_with (refine wpList_storeG4 rfl (.tmp 2) (.tmp 37) rfl b1 (fun _ => Gau.zero) (fun _ => Gau.zero) rfl (by first | rfl | kernel_rfl) HZ3.out ?_; intro W9 r9 o9)
              refine bodyPost_ret (v := .tuple #[.agg (arrG4 fun _ => Gau.zero), .int .i64 3]) (result2G4 rfl _ rfl rfl r9) rfl ⟨rfl, ?_⟩
              rw [HW0.out]
              exact hB.trans (o9.to_below h01' (by omega))
            · have t1 : (y.re.tmod 4 != 0) = false := by simpa using h1
              have t2 : (y.im.tmod 4 != 0) = true := by simpa using h2
              clear h1 h2
              go_upto_region 11 with fail
              have hz8 : ∀ a : Act, (execOp a.eval (⟨some 37, .build 24 #[], 24, "", #[], none⟩ : Oper)).run Try.prog wB = .ok (.value (.agg (arrG4 fun _ => Gau.zero))) wB := fun a => by kernel_rfl
              go_wp2_with (refine wpList_storeG4 rfl (.tmp 2) (.tmp 37) rfl b1 (fun _ => Gau.zero) (fun _ => Gau.zero) rfl (by first | rfl | kernel_rfl) HZ3.out ?_; intro W9 r9 o9)
              refine bodyPost_ret (v := .tuple #[.agg (arrG4 fun _ => Gau.zero), .int .i64 3]) (result2G4 rfl _ rfl rfl r9) rfl ⟨rfl, ?_⟩
              rw [HW0.out]
              exact hB.trans (o9.to_below h01' (by omega))
    · obtain rfl : k = 4 := by omega
      have hG : (fun n => bkG (Y n)) = G := (funext fun n => (if_pos HS.out).symm : (fun n => bkG (Y n)) = _).trans HG.out
      have hV : V = 0 := HV.out.symm.trans (if_pos HS.out)
      subst hV
      clear HG HV
      have HZ := hide hZ
      have HA := hide (show ArrG4 wA b5 G by rw [← hG]; exact hA.congr fun q hq => if_pos hq)
      have hs3 := hZ.lt
      clear hZ hA hG
      go_wp2_with (first | (refine wpList_storeG4 rfl (.tmp 2) (.tmp 47) rfl b1 (fun _ => Gau.zero) G rfl rfl HZ.out ?_; intro W9 r9 o9) | (refine wpList_loadG4 rfl (.tmp 4) rfl b5 G rfl HA.out ?_))
      refine bodyPost_ret (v := .tuple #[.agg (arrG4 G), .int .i64 0]) (result2G4 rfl _ rfl rfl r9) rfl ⟨rfl, ?_⟩
      rw [HW0.out]
      exact hB.trans (o9.to_below h01' (by omega))
end Go.Proofs.Ytibdbopejnkefaa
/- The walk of WaveFours. -/
namespace Go.Proofs.Ytibdbopejnkefaa
open Go.RowKit Go.Great
theorem four_there {X : Nat → Gau} (hE : gausE 1000000000 (fF X 1) 4 = 0) : bkR (fF X 1) = 0 ∧ ∀ k, k < 4 → bkG (fF (fF X 1) (-1) k) = X k := by
  refine ⟨?_, fun k hk => ?_⟩
  · unfold bkR
    rw [if_pos hE, if_pos (bkAll_all fun j hj => by rw [four_back X hj]; exact (okB_four _ _).1)]
  · rw [four_back X hk]; exact (okB_four _ _).2
set_option maxHeartbeats 16000000 in
set_option maxRecDepth 100000 in
theorem waveFours_walk (X : Nat → Gau) (w : World) :
    Calls Try.prog 3 #[.agg (arrG4 X)] w fun e w' => e = .returned (.bool true) ∧ Below w.heap.size w w' := by
  have HAW := hide (fun W => awake_any W)
  have HFE := hide (fun W => fourErrR_any X W)
  by_cases hE : gausE 1000000000 X 4 = 0
  case neg =>
    have hR : bkR X = gausE 1000000000 X 4 := if_neg hE
    have HFO := hide (fun W => (show Calls Try.prog 5 #[.agg (arrG4 X)] W fun e w' => e = .returned (.tuple #[.agg (arrG4 fun _ => Gau.zero), .int .i64 (gausE 1000000000 X 4)]) ∧ Below W.heap.size W w' from by have h := Four_any X W; simp only [if_neg hE] at h; exact h))
    have HFB := hide (fun W => (show Calls Try.prog 6 #[.agg (arrG4 X)] W fun e w' => e = .returned (.tuple #[.agg (arrG4 fun _ => Gau.zero), .int .i64 (gausE 1000000000 X 4)]) ∧ Below W.heap.size W w' from by have h := FourBack_any X W; simp only [hR, if_neg hE] at h; exact h))
    clear hR
    obtain ⟨E, hEE⟩ : ∃ z, gausE 1000000000 X 4 = z := ⟨_, rfl⟩
    rw [hEE] at hE
    simp only [hEE] at HFO HFB HFE
    clear hEE
    have t1 : (E != 0) = true := by simpa using hE
    have t2 : (E == E) = true := by simp
    clear hE
    obtain ⟨Z, hZ⟩ : ∃ z : Nat → Gau, (fun _ => Gau.zero) = z := ⟨_, rfl⟩
    have HZ := hide hZ
    simp only [hZ] at HFO HFB
    clear hZ
    go_enter Try.func3, Try.ntmps3
    go_upto_region 1 with (refine wpList_boxTo rfl 24 (.tmp 0) rfl _ rfl w.heap.size rfl (arrG4 X) rfl ?_; obtain ⟨W0, hW0⟩ : ∃ q : World, w.alloc (.cells (arrG4 X) 24) = q := ⟨_, rfl⟩; rw [hW0])
    have HX := hide (show ArrG4 W0 w.heap.size X by rw [← hW0]; exact ArrG4.at_alloc w _ _ rfl)
    have hB0 : Below w.heap.size w W0 := by rw [← hW0]; (repeat (first | (with_reducible exact Below.refl _ _) | (with_reducible refine Go.below_drewN ?_ _) | (with_reducible refine Below.drew ?_) | (with_reducible refine Below.alloc ?_ (by first | exact Nat.le_refl _ | (simp; done) | (simp; omega) | omega) _) | (with_reducible refine Below.setCell ?_ (by first | exact Nat.le_refl _ | (simp; done) | (simp; omega) | omega) _)))
    clear hW0
    go_wp2_with fail
    refine (HAW.out _).mono ?_
    rintro e w_1 ⟨rfl, hb_1⟩
    have HX_2 := hide (HX.out.below hb_1)
    have hB_2 := hB0.trans (hb_1.mono hB0.size)
    clear hb_1 hB0 HX
    clear HAW
    go_wp2_with (refine wpList_loadG4 rfl (.tmp 1) rfl w.heap.size X rfl HX_2.out ?_)
    refine (HFO.out _).mono ?_
    rintro e w_3 ⟨rfl, hb_3⟩
    have HX_4 := hide (HX_2.out.below hb_3)
    have hB_4 := hB_2.trans (hb_3.mono hB_2.size)
    clear hb_3 hB_2 HX_2
    obtain ⟨HAbB, hHAbB⟩ : ∃ z, w_3.heap.size = z := ⟨_, rfl⟩
    go_upto_region 4 with (first
      | (refine wpList_storeG4 rfl (.tmp 3) (.tmp 17) rfl HAbB (fun _ => Gau.zero) Z rfl rfl (ArrG4.at_alloc _ _ _ hHAbB.symm) ?_; intro W_5 r_5 o_5)
      | (refine wpList_allocTo rfl (some 3) rfl (.pointer (some ⟨HAbB, 0, none⟩)) (.cells (arrG4 fun _ => Gau.zero) 24) (by rw [← hHAbB]; kernel_rfl) ?_))
    have hc_5 : Below w_3.heap.size w_3 W_5 := ((Below.refl _ _).alloc (Nat.le_refl _) _).trans (o_5.to_below (by omega) (by simp))
    clear o_5 hHAbB
    have HX_6 := hide (HX_4.out.below hc_5)
    have hB_6 := hB_4.trans (hc_5.mono hB_4.size)
    clear hc_5 hB_4 HX_4
    have HAb := hide r_5
    clear r_5
    clear HFO
    go_wp2_with (refine wpList_loadG4 rfl (.tmp 1) rfl w.heap.size X rfl HX_6.out ?_)
    refine (HFB.out _).mono ?_
    rintro e w_7 ⟨rfl, hb_7⟩
    have HX_8 := hide (HX_6.out.below hb_7)
    have HAb_8 := hide (HAb.out.below hb_7)
    have hB_8 := hB_6.trans (hb_7.mono hB_6.size)
    clear hb_7 hB_6 HX_6 HAb
    obtain ⟨HBbB, hHBbB⟩ : ∃ z, w_7.heap.size = z := ⟨_, rfl⟩
    go_upto_region 5 with (first
      | (refine wpList_storeG4 rfl (.tmp 5) (.tmp 22) rfl HBbB (fun _ => Gau.zero) Z rfl rfl (ArrG4.at_alloc _ _ _ hHBbB.symm) ?_; intro W_9 r_9 o_9)
      | (refine wpList_allocTo rfl (some 5) rfl (.pointer (some ⟨HBbB, 0, none⟩)) (.cells (arrG4 fun _ => Gau.zero) 24) (by rw [← hHBbB]; kernel_rfl) ?_))
    have hc_9 : Below w_7.heap.size w_7 W_9 := ((Below.refl _ _).alloc (Nat.le_refl _) _).trans (o_9.to_below (by omega) (by simp))
    clear o_9 hHBbB
    have HX_10 := hide (HX_8.out.below hc_9)
    have HAb_10 := hide (HAb_8.out.below hc_9)
    have hB_10 := hB_8.trans (hc_9.mono hB_8.size)
    clear hc_9 hB_8 HX_8 HAb_8
    have HBb := hide r_9
    clear r_9
    clear HFB
    go_wp2_with (refine wpList_loadG4 rfl (.tmp 1) rfl w.heap.size X rfl HX_10.out ?_)
    refine (HFE.out _).mono ?_
    rintro e w_11 ⟨rfl, hb_11⟩
    have HX_12 := hide (HX_10.out.below hb_11)
    have HAb_12 := hide (HAb_10.out.below hb_11)
    have HBb_12 := hide (HBb.out.below hb_11)
    have hB_12 := hB_10.trans (hb_11.mono hB_10.size)
    clear hb_11 hB_10 HX_10 HAb_10 HBb
    clear HFE
    have hq : (Op.equalIn 10000 24 (.agg (arrG4 Z)) (.agg #[.int .i64 0, .int .i64 0, .int .i64 0, .int .i64 0, .int .i64 0, .int .i64 0, .int .i64 0, .int .i64 0])).run Try.prog w_11 = .ok true w_11 := by rw [← HZ.out]; exact equalG4_zero _
    go_wp2_with (first | (refine wpList_loadG4 rfl (.tmp 3) rfl HAbB Z rfl HAb_12.out ?_) | (refine wpList_loadG4 rfl (.tmp 5) rfl HBbB Z rfl HBb_12.out ?_))
    go_ret
    exact ⟨rfl, hB_12⟩
  case pos =>
  have hXW := gausE_within hE
  have hR : bkR X = if bkAll (fF X (-1)) 4 = true then 0 else 3 := if_pos hE
  have hBB : (fun k => if bkR X = 0 then bkG (fF X (-1) k) else Gau.zero) = fun k => if bkAll (fF X (-1)) 4 = true then bkG (fF X (-1) k) else Gau.zero := by
    funext k
    rw [hR]
    by_cases h : bkAll (fF X (-1)) 4 = true
    · rw [if_pos h, if_pos h, if_pos rfl]
    · rw [if_neg h, if_neg h, if_neg (by decide)]
  have HFO := hide (fun W => Four_right X hE W)
  have HFB := hide (fun W => FourBack_any X W)
  rw [hBB, hR] at HFB
  have HRB := hide (fun W => fourBackR_any X hXW W)
  have HRF := hide (fun W => fourR_any X hXW W)
  have HFC := hide (fun W (hD : gausE 1000000000 (fF X 1) 4 = 0) => (show Calls Try.prog 6 #[.agg (arrG4 (fF X 1))] W fun e w' => e = .returned (.tuple #[.agg (arrG4 X), .int .i64 0]) ∧ Below W.heap.size W w' from by
    obtain ⟨h1, h2⟩ := four_there hD
    have h := FourBack_any (fF X 1) W
    simp only [h1, if_true] at h
    rw [arrG4_congr h2] at h
    exact h))
  have HFD := hide (fun W => fourErrR_any (fF X 1) W)
  simp only [hE] at HFE
  obtain ⟨V, hV⟩ : ∃ z : Int, (if bkAll (fF X (-1)) 4 = true then 0 else 3) = z := ⟨_, rfl⟩
  obtain ⟨B, hB⟩ : ∃ z : Nat → Gau, (fun k => if bkAll (fF X (-1)) 4 = true then bkG (fF X (-1) k) else Gau.zero) = z := ⟨_, rfl⟩
  rw [hV, hB] at HFB HRB
  obtain ⟨A, hA⟩ : ∃ z, fF X 1 = z := ⟨_, rfl⟩
  rw [hA] at HFO HRF
  simp only [hA] at HFC HFD
  obtain ⟨D, hD⟩ : ∃ z, gausE 1000000000 A 4 = z := ⟨_, rfl⟩
  simp only [hD] at HFC HFD
  clear hXW hR hBB hE hV hB hA hD
  go_enter Try.func3, Try.ntmps3
  go_upto_region 1 with (refine wpList_boxTo rfl 24 (.tmp 0) rfl _ rfl w.heap.size rfl (arrG4 X) rfl ?_; obtain ⟨W0, hW0⟩ : ∃ q : World, w.alloc (.cells (arrG4 X) 24) = q := ⟨_, rfl⟩; rw [hW0])
  have HX := hide (show ArrG4 W0 w.heap.size X by rw [← hW0]; exact ArrG4.at_alloc w _ _ rfl)
  have hB0 : Below w.heap.size w W0 := by rw [← hW0]; (repeat (first | (with_reducible exact Below.refl _ _) | (with_reducible refine Go.below_drewN ?_ _) | (with_reducible refine Below.drew ?_) | (with_reducible refine Below.alloc ?_ (by first | exact Nat.le_refl _ | (simp; done) | (simp; omega) | omega) _) | (with_reducible refine Below.setCell ?_ (by first | exact Nat.le_refl _ | (simp; done) | (simp; omega) | omega) _)))
  clear hW0
  go_wp2_with fail
  refine (HAW.out _).mono ?_
  rintro e w_13 ⟨rfl, hb_13⟩
  have HX_14 := hide (HX.out.below hb_13)
  have hB_14 := hB0.trans (hb_13.mono hB0.size)
  clear hb_13 hB0 HX
  clear HAW
  go_wp2_with (refine wpList_loadG4 rfl (.tmp 1) rfl w.heap.size X rfl HX_14.out ?_)
  refine (HFO.out _).mono ?_
  rintro e w_15 ⟨rfl, hb_15⟩
  have HX_16 := hide (HX_14.out.below hb_15)
  have hB_16 := hB_14.trans (hb_15.mono hB_14.size)
  clear hb_15 hB_14 HX_14
  obtain ⟨HAbB, hHAbB⟩ : ∃ z, w_15.heap.size = z := ⟨_, rfl⟩
  go_upto_region 4 with (first
    | (refine wpList_storeG4 rfl (.tmp 3) (.tmp 17) rfl HAbB (fun _ => Gau.zero) A rfl rfl (ArrG4.at_alloc _ _ _ hHAbB.symm) ?_; intro W_17 r_17 o_17)
    | (refine wpList_allocTo rfl (some 3) rfl (.pointer (some ⟨HAbB, 0, none⟩)) (.cells (arrG4 fun _ => Gau.zero) 24) (by rw [← hHAbB]; kernel_rfl) ?_))
  have hc_17 : Below w_15.heap.size w_15 W_17 := ((Below.refl _ _).alloc (Nat.le_refl _) _).trans (o_17.to_below (by omega) (by simp))
  clear o_17 hHAbB
  have HX_18 := hide (HX_16.out.below hc_17)
  have hB_18 := hB_16.trans (hc_17.mono hB_16.size)
  clear hc_17 hB_16 HX_16
  have HAb := hide r_17
  clear r_17
  clear HFO
  go_wp2_with (refine wpList_loadG4 rfl (.tmp 1) rfl w.heap.size X rfl HX_18.out ?_)
  refine (HFB.out _).mono ?_
  rintro e w_19 ⟨rfl, hb_19⟩
  have HX_20 := hide (HX_18.out.below hb_19)
  have HAb_20 := hide (HAb.out.below hb_19)
  have hB_20 := hB_18.trans (hb_19.mono hB_18.size)
  clear hb_19 hB_18 HX_18 HAb
  obtain ⟨HBbB, hHBbB⟩ : ∃ z, w_19.heap.size = z := ⟨_, rfl⟩
  go_upto_region 5 with (first
    | (refine wpList_storeG4 rfl (.tmp 5) (.tmp 22) rfl HBbB (fun _ => Gau.zero) B rfl rfl (ArrG4.at_alloc _ _ _ hHBbB.symm) ?_; intro W_21 r_21 o_21)
    | (refine wpList_allocTo rfl (some 5) rfl (.pointer (some ⟨HBbB, 0, none⟩)) (.cells (arrG4 fun _ => Gau.zero) 24) (by rw [← hHBbB]; kernel_rfl) ?_))
  have hc_21 : Below w_19.heap.size w_19 W_21 := ((Below.refl _ _).alloc (Nat.le_refl _) _).trans (o_21.to_below (by omega) (by simp))
  clear o_21 hHBbB
  have HX_22 := hide (HX_20.out.below hc_21)
  have HAb_22 := hide (HAb_20.out.below hc_21)
  have hB_22 := hB_20.trans (hc_21.mono hB_20.size)
  clear hc_21 hB_20 HX_20 HAb_20
  have HBb := hide r_21
  clear r_21
  clear HFB
  go_wp2_with (refine wpList_loadG4 rfl (.tmp 1) rfl w.heap.size X rfl HX_22.out ?_)
  refine (HFE.out _).mono ?_
  rintro e w_23 ⟨rfl, hb_23⟩
  have HX_24 := hide (HX_22.out.below hb_23)
  have HAb_24 := hide (HAb_22.out.below hb_23)
  have HBb_24 := hide (HBb.out.below hb_23)
  have hB_24 := hB_22.trans (hb_23.mono hB_22.size)
  clear hb_23 hB_22 HX_22 HAb_22 HBb
  clear HFE
  have t0 : ((0 : Int) != 0) = false := rfl
  go_wp2_with (refine wpList_loadG4 rfl (.tmp 1) rfl w.heap.size X rfl HX_24.out ?_)
  refine (HRB.out _).mono ?_
  rintro e w_25 ⟨rfl, hb_25⟩
  have HX_26 := hide (HX_24.out.below hb_25)
  have HAb_26 := hide (HAb_24.out.below hb_25)
  have HBb_26 := hide (HBb_24.out.below hb_25)
  have hB_26 := hB_24.trans (hb_25.mono hB_24.size)
  clear hb_25 hB_24 HX_24 HAb_24 HBb_24
  obtain ⟨HCbB, hHCbB⟩ : ∃ z, w_25.heap.size = z := ⟨_, rfl⟩
  go_upto_region 9 with (first
    | (refine wpList_storeG4 rfl (.tmp 8) (.tmp 49) rfl HCbB (fun _ => Gau.zero) B rfl rfl (ArrG4.at_alloc _ _ _ hHCbB.symm) ?_; intro W_27 r_27 o_27)
    | (refine wpList_allocTo rfl (some 8) rfl (.pointer (some ⟨HCbB, 0, none⟩)) (.cells (arrG4 fun _ => Gau.zero) 24) (by rw [← hHCbB]; kernel_rfl) ?_))
  have hc_27 : Below w_25.heap.size w_25 W_27 := ((Below.refl _ _).alloc (Nat.le_refl _) _).trans (o_27.to_below (by omega) (by simp))
  clear o_27 hHCbB
  have HX_28 := hide (HX_26.out.below hc_27)
  have HAb_28 := hide (HAb_26.out.below hc_27)
  have HBb_28 := hide (HBb_26.out.below hc_27)
  have hB_28 := hB_26.trans (hc_27.mono hB_26.size)
  clear hc_27 hB_26 HX_26 HAb_26 HBb_26
  have HCb := hide r_27
  clear r_27
  clear HRB
  have t2 : (V != V) = false := by simp
  refine wp_region_held_drew (S := fun w' => ArrG4 w' HAbB A ∧ ArrG4 w' w.heap.size X ∧ ArrG4 w' HBbB B ∧ ArrG4 w' HCbB B) (by kernel_rfl) ⟨HAb_28.out, HX_28.out, HBb_28.out, HCb.out⟩ (fun hHeld => ?_)
  refine wpAnyH_take (i := 0) (oi := ⟨some 51, _, _, _, _, _⟩) (v := ?_) rfl (by kernel_rfl) (by kernel_rfl) (by kernel_rfl) (fun _ _ _ h => h) (Or.inl ⟨by rfl, ?_⟩) (by assumption) ?_
  rotate_left
  · (intro w' hSw; (try dsimp only at hSw); go_simp <;> (with_reducible rfl))
  try simp only [Act.put, List.setIfInBounds_toArray, List.set_cons_zero, List.set_cons_succ]
  refine wpAnyH_take (i := 1) (oi := ⟨some 52, _, _, _, _, _⟩) (v := ?_) rfl (by kernel_rfl) (by kernel_rfl) (by kernel_rfl) (fun _ _ _ h => h) (Or.inl ⟨by rfl, ?_⟩) (by assumption) ?_
  rotate_left
  · (intro w' hSw; (try dsimp only at hSw); go_simp <;> (with_reducible rfl))
  try simp only [Act.put, List.setIfInBounds_toArray, List.set_cons_zero, List.set_cons_succ]
  refine wpAnyH_take (i := 2) (oi := ⟨some 53, _, _, _, _, _⟩) (v := ?_) rfl (by kernel_rfl) (by kernel_rfl) (by kernel_rfl) (fun _ _ _ h => h) (Or.inl ⟨by rfl, ?_⟩) (by assumption) ?_
  rotate_left
  · (intro w' hSw; (try dsimp only at hSw); go_simp <;> (with_reducible rfl))
  try simp only [Act.put, List.setIfInBounds_toArray, List.set_cons_zero, List.set_cons_succ]
  refine wpAnyH_take (i := 3) (oi := ⟨some 54, _, _, _, _, _⟩) (v := (.agg (arrG4 A))) rfl (by kernel_rfl) (by kernel_rfl) (by kernel_rfl) (fun _ _ _ h => h) (Or.inl ⟨by rfl, fun w' hSw => exec_loadG4 rfl hSw.1⟩) (by assumption) ?_
  try simp only [Act.put, List.setIfInBounds_toArray, List.set_cons_zero, List.set_cons_succ]
  refine wpAnyH_take (i := 4) (oi := ⟨some 55, _, _, _, _, _⟩) (v := (.agg (arrG4 X))) rfl (by kernel_rfl) (by kernel_rfl) (by kernel_rfl) (fun _ _ _ h => h) (Or.inl ⟨by rfl, fun w' hSw => exec_loadG4 rfl hSw.2.1⟩) (by assumption) ?_
  try simp only [Act.put, List.setIfInBounds_toArray, List.set_cons_zero, List.set_cons_succ]
  refine wpAnyH_ready (rs := [5]) (by kernel_rfl) (by simp) ?_
  refine AllReadyH.cons (o := ⟨some 56, _, _, _, _, _⟩) rfl (fun K' hK => ?_) AllReadyH.nil
  go_simp
  go_at_call 9
  refine (HRF.out _).mono ?_
  rintro e wF ⟨rfl, hbF'⟩
  have hbF : Below W_27.heap.size W_27 wF := by first | exact hbF' | exact below_of_drew hbF'
  clear hbF'
  go_wp2_with fail
  refine hK.out _ _ ⟨HAb_28.out.below hbF, HX_28.out.below hbF, HBb_28.out.below hbF, HCb.out.below hbF⟩ (fun hHeld => ?_)
  clear hK K'
  try simp only [Act.put, List.setIfInBounds_toArray, List.set_cons_zero, List.set_cons_succ]
  refine wpAnyH_take (i := 6) (oi := ⟨some 57, _, _, _, _, _⟩) (v := (.bool false)) rfl (by kernel_rfl) (by kernel_rfl) (by kernel_rfl) (fun _ _ _ h => h) (Or.inl ⟨by rfl, fun w' hSw => by go_simp; simp [equalG4_same]⟩) (by assumption) ?_
  try simp only [Act.put, List.setIfInBounds_toArray, List.set_cons_zero, List.set_cons_succ]
  refine wpAnyH_take (i := 7) (oi := ⟨some 58, _, _, _, _, _⟩) (v := ?_) rfl (by kernel_rfl) (by kernel_rfl) (by kernel_rfl) (fun _ _ _ h => h) (Or.inl ⟨by rfl, ?_⟩) (by assumption) ?_
  rotate_left
  · (intro w' hSw; (try dsimp only at hSw); go_simp <;> (with_reducible rfl))
  try simp only [Act.put, List.setIfInBounds_toArray, List.set_cons_zero, List.set_cons_succ]
  refine wpAnyH_take (i := 8) (oi := ⟨some 59, _, _, _, _, _⟩) (v := ?_) rfl (by kernel_rfl) (by kernel_rfl) (by kernel_rfl) (fun _ _ _ h => h) (Or.inl ⟨by rfl, ?_⟩) (by assumption) ?_
  rotate_left
  · (intro w' hSw; (try dsimp only at hSw); go_simp <;> (with_reducible rfl))
  try simp only [Act.put, List.setIfInBounds_toArray, List.set_cons_zero, List.set_cons_succ]
  refine wpAnyH_take (i := 9) (oi := ⟨some 60, _, _, _, _, _⟩) (v := ?_) rfl (by kernel_rfl) (by kernel_rfl) (by kernel_rfl) (fun _ _ _ h => h) (Or.inl ⟨by rfl, ?_⟩) (by assumption) ?_
  rotate_left
  · (intro w' hSw; (try dsimp only at hSw); go_simp <;> (with_reducible rfl))
  try simp only [Act.put, List.setIfInBounds_toArray, List.set_cons_zero, List.set_cons_succ]
  refine wpAnyH_take (i := 10) (oi := ⟨some 61, _, _, _, _, _⟩) (v := ?_) rfl (by kernel_rfl) (by kernel_rfl) (by kernel_rfl) (fun _ _ _ h => h) (Or.inl ⟨by rfl, ?_⟩) (by assumption) ?_
  rotate_left
  · (intro w' hSw; (try dsimp only at hSw); go_simp <;> (with_reducible rfl))
  try simp only [Act.put, List.setIfInBounds_toArray, List.set_cons_zero, List.set_cons_succ]
  refine wpAnyH_take (i := 11) (oi := ⟨some 62, _, _, _, _, _⟩) (v := ?_) rfl (by kernel_rfl) (by kernel_rfl) (by kernel_rfl) (fun _ _ _ h => h) (Or.inl ⟨by rfl, ?_⟩) (by assumption) ?_
  rotate_left
  · (intro w' hSw; (try dsimp only at hSw); go_simp <;> (with_reducible rfl))
  try simp only [Act.put, List.setIfInBounds_toArray, List.set_cons_zero, List.set_cons_succ]
  refine wpAnyH_take (i := 12) (oi := ⟨some 63, _, _, _, _, _⟩) (v := ?_) rfl (by kernel_rfl) (by kernel_rfl) (by kernel_rfl) (fun _ _ _ h => h) (Or.inl ⟨by rfl, ?_⟩) (by assumption) ?_
  rotate_left
  · (intro w' hSw; (try dsimp only at hSw); go_simp <;> (with_reducible rfl))
  try simp only [Act.put, List.setIfInBounds_toArray, List.set_cons_zero, List.set_cons_succ]
  refine wpAnyH_take (i := 13) (oi := ⟨some 64, _, _, _, _, _⟩) (v := ?_) rfl (by kernel_rfl) (by kernel_rfl) (by kernel_rfl) (fun _ _ _ h => h) (Or.inl ⟨by rfl, ?_⟩) (by assumption) ?_
  rotate_left
  · (intro w' hSw; (try dsimp only at hSw); go_simp <;> (with_reducible rfl))
  try simp only [Act.put, List.setIfInBounds_toArray, List.set_cons_zero, List.set_cons_succ]
  refine wpAnyH_take (i := 14) (oi := ⟨some 65, _, _, _, _, _⟩) (v := (.agg (arrG4 B))) rfl (by kernel_rfl) (by kernel_rfl) (by kernel_rfl) (fun _ _ _ h => h) (Or.inl ⟨by rfl, fun w' hSw => exec_loadG4 rfl hSw.2.2.1⟩) (by assumption) ?_
  try simp only [Act.put, List.setIfInBounds_toArray, List.set_cons_zero, List.set_cons_succ]
  refine wpAnyH_take (i := 15) (oi := ⟨some 66, _, _, _, _, _⟩) (v := (.agg (arrG4 B))) rfl (by kernel_rfl) (by kernel_rfl) (by kernel_rfl) (fun _ _ _ h => h) (Or.inl ⟨by rfl, fun w' hSw => exec_loadG4 rfl hSw.2.2.2⟩) (by assumption) ?_
  try simp only [Act.put, List.setIfInBounds_toArray, List.set_cons_zero, List.set_cons_succ]
  refine wpAnyH_take (i := 16) (oi := ⟨some 67, _, _, _, _, _⟩) (v := (.bool false)) rfl (by kernel_rfl) (by kernel_rfl) (by kernel_rfl) (fun _ _ _ h => h) (Or.inl ⟨by rfl, fun w' hSw => by go_simp; simp [equalG4_same]⟩) (by assumption) ?_
  try simp only [Act.put, List.setIfInBounds_toArray, List.set_cons_zero, List.set_cons_succ]
  refine wpAnyH_take (i := 17) (oi := ⟨some 68, _, _, _, _, _⟩) (v := ?_) rfl (by kernel_rfl) (by kernel_rfl) (by kernel_rfl) (fun _ _ _ h => h) (Or.inl ⟨by rfl, ?_⟩) (by assumption) ?_
  rotate_left
  · (intro w' hSw; (try dsimp only at hSw); go_simp <;> (with_reducible rfl))
  try simp only [Act.put, List.setIfInBounds_toArray, List.set_cons_zero, List.set_cons_succ]
  refine wpAnyH_done (by kernel_rfl) ?_ _
  skip
  have HX_30 := hide (HX_28.out.below hbF)
  have HAb_30 := hide (HAb_28.out.below hbF)
  have HBb_30 := hide (HBb_28.out.below hbF)
  have HCb_30 := hide (HCb.out.below hbF)
  have hB_30 := hB_28.trans (hbF.mono hB_28.size)
  clear hbF hB_28 HX_28 HAb_28 HBb_28 HCb
  go_wp2_with (refine wpList_loadG4 rfl (.tmp 3) rfl HAbB A rfl HAb_30.out ?_)
  refine (HFD.out _).mono ?_
  rintro e w_31 ⟨rfl, hb_31⟩
  have HX_32 := hide (HX_30.out.below hb_31)
  have HAb_32 := hide (HAb_30.out.below hb_31)
  have HBb_32 := hide (HBb_30.out.below hb_31)
  have HCb_32 := hide (HCb_30.out.below hb_31)
  have hB_32 := hB_30.trans (hb_31.mono hB_30.size)
  clear hb_31 hB_30 HX_30 HAb_30 HBb_30 HCb_30
  clear HFD
  by_cases hD : D = 0
  case neg =>
    have t1 : (D != 0) = true := by simpa using hD
    clear HFC hD
    go_wp2_with fail
    go_ret
    exact ⟨rfl, hB_32⟩
  case pos =>
  subst hD
  have HFG := hide (fun W => HFC.out W (by first | rfl | trivial))
  clear HFC
  go_wp2_with (refine wpList_loadG4 rfl (.tmp 3) rfl HAbB A rfl HAb_32.out ?_)
  refine (HFG.out _).mono ?_
  rintro e w_33 ⟨rfl, hb_33⟩
  have HX_34 := hide (HX_32.out.below hb_33)
  have HAb_34 := hide (HAb_32.out.below hb_33)
  have HBb_34 := hide (HBb_32.out.below hb_33)
  have HCb_34 := hide (HCb_32.out.below hb_33)
  have hB_34 := hB_32.trans (hb_33.mono hB_32.size)
  clear hb_33 hB_32 HX_32 HAb_32 HBb_32 HCb_32
  obtain ⟨HGbB, hHGbB⟩ : ∃ z, w_33.heap.size = z := ⟨_, rfl⟩
  go_upto_region 14 with (first
    | (refine wpList_storeG4 rfl (.tmp 10) (.tmp 75) rfl HGbB (fun _ => Gau.zero) X rfl rfl (ArrG4.at_alloc _ _ _ hHGbB.symm) ?_; intro W_35 r_35 o_35)
    | (refine wpList_allocTo rfl (some 10) rfl (.pointer (some ⟨HGbB, 0, none⟩)) (.cells (arrG4 fun _ => Gau.zero) 24) (by rw [← hHGbB]; kernel_rfl) ?_))
  have hc_35 : Below w_33.heap.size w_33 W_35 := ((Below.refl _ _).alloc (Nat.le_refl _) _).trans (o_35.to_below (by omega) (by simp))
  clear o_35 hHGbB
  have HX_36 := hide (HX_34.out.below hc_35)
  have HAb_36 := hide (HAb_34.out.below hc_35)
  have HBb_36 := hide (HBb_34.out.below hc_35)
  have HCb_36 := hide (HCb_34.out.below hc_35)
  have hB_36 := hB_34.trans (hc_35.mono hB_34.size)
  clear hc_35 hB_34 HX_34 HAb_34 HBb_34 HCb_34
  have HGb := hide r_35
  clear r_35
  clear HFG
  have t3 : ((0 : Int) == 0) = true := rfl
  have hq := equalG4_same X W_35
  go_wp2_with (first | (refine wpList_loadG4 rfl (.tmp 10) rfl HGbB X rfl HGb.out ?_) | (refine wpList_loadG4 rfl (.tmp 1) rfl w.heap.size X rfl HX_36.out ?_))
  go_ret
  exact ⟨rfl, hB_36⟩
end Go.Proofs.Ytibdbopejnkefaa
