/- Lemmas: S36. -/
import Derived.Laws.MakeOwn
import Derived.Test.YtcdplfjegopmdaaGreatBk19
set_option linter.unusedVariables false
set_option linter.unusedSimpArgs false
/- product of the code. -/
namespace Go.Proofs.YtcdplfjegopmdaaGreat
open Go Go.RowKit Go.Lib Ieee
/-- The first k terms of an entry of a product. -/
def gsum (X Y : Nat → Nat → Gau) (r c : Nat) : Nat → Gau
  | 0 => Gau.zero
  | k + 1 => (gsum X Y r c k).plus ((X r k).mul (Y k c))
theorem gsum_within {X Y : Nat → Nat → Gau} {r c : Nat} {M N : Int} : ∀ {k : Nat}, (∀ i, i < k → (X r i).Within M ∧ (Y i c).Within N) → (gsum X Y r c k).Within (k * (2 * (M * N)))
  | 0, _ => by
    show Gau.zero.Within ((0 : Nat) * (2 * (M * N)))
    simp only [Int.natCast_zero, Int.zero_mul]
    exact ⟨by decide, by decide⟩
  | k + 1, h => by
    have h1 := gsum_within (k := k) fun i hi => h i (by omega)
    have h2 := Gau.mul_within (h k (Nat.lt_succ_self k)).1 (h k (Nat.lt_succ_self k)).2
    have e : (((k + 1 : Nat)) : Int) * (2 * (M * N)) = k * (2 * (M * N)) + 2 * (M * N) := by rw [Int.natCast_succ, Int.add_mul, Int.one_mul]
    rw [e]
    exact Gau.plus_within h1 h2
theorem mat_row {w : World} {lo b o n : Nat} {L : Nat → Nat} {F : Nat → Nat → Gau} (h : MatsAt w lo (some ⟨b, o, none⟩) n L F) {i : Nat} (hi : i < n) : ∃ Ai ci, w.cell? ⟨b, o + i, none⟩ = some (.slice Ai (L i) ci) ∧ L i ≤ ci ∧ ci ≤ 9223372036854775807 ∧ GausAt w lo Ai (L i) (F i) ∧ lo ≤ b ∧ b < w.heap.size := by
  obtain ⟨b', o', Ai, ci, e, h1, h2, h3, h4, h5, h6⟩ := h i hi
  injection e with e
  injection e with e1 e2
  subst e1; subst e2
  exact ⟨Ai, ci, h3, h4, h5, h6, h1, h2⟩
theorem gaus_some {w : World} {lo n : Nat} {A : Option Addr} {F : Nat → Gau} (h : GausAt w lo A n F) (hn : 0 < n) : ∃ b o, A = some ⟨b, o, none⟩ ∧ lo ≤ b ∧ b < w.heap.size := by
  obtain ⟨b, o, e, h1, h2, -⟩ := h 0 hn
  exact ⟨b, o, e, h1, h2⟩
theorem gaus_at {w : World} {lo b o n : Nat} {F : Nat → Gau} (h : GausAt w lo (some ⟨b, o, none⟩) n F) {i : Nat} (hi : i < n) : w.cell? ⟨b, o + i * 2, none⟩ = some (.int .i64 (F i).re) ∧ w.cell? ⟨b, o + i * 2 + 1, none⟩ = some (.int .i64 (F i).im) := by
  obtain ⟨b', o', e, -, -, h3, h4⟩ := h i hi
  injection e with e
  injection e with e1 e2
  subst e1; subst e2
  exact ⟨h3, h4⟩
theorem Only.under {b : Nat} {a w w' : World} (h : Only b a w) (hb : Below a.heap.size w w') : Only b a w' :=
  ⟨hb.os.trans h.os, hb.tape.trans h.tape, hb.output.trans h.output, Nat.le_trans h.size hb.size, fun i hi hn => (hb.block i hi).trans (h.block i hi hn)⟩
theorem bcellW {W W' : World} {b o : Nat} {v : Value} (hb : Below W.heap.size W W') (h : W.cell? ⟨b, o, none⟩ = some v) : W'.cell? ⟨b, o, none⟩ = some v :=
  (hb.cell (p := ⟨b, o, none⟩) (World.block_lt_of_cell? W _ h)).trans h
theorem madeMat (n : Nat) (hn : n ≤ 1000) (w : World) : (Instr.makeSlice 31 (.int .i64 (n : Int)) (.int .i64 (n : Int))).run Tryz.prog w = .ok (.slice (some ⟨w.heap.size, 0, none⟩) n n) (w.alloc (.cells (madeCells #[.slice none 0 0] n) 32)) := by
  obtain ⟨i0, hi, hz0, hz1, hz2⟩ := info_parts matInfo
  exact run_make_row (P := Tryz.prog) 31 32 i0 (.slice none 0 0) Tryz.underlying31 hi hz0 hz1 rfl .i64 .i64 n (by rw [hz2]; omega) (by omega) w
theorem madeMat_get (n i : Nat) : (madeCells #[.slice none 0 0] n : Array Value)[i]? = if i < n then some (.slice none 0 0) else none := by
  by_cases h : i < n
  · rw [if_pos h]; simp [madeCells, h, Nat.mod_one]
  · rw [if_neg h]; simp [madeCells, h]
/-- The first r rows are there, each in another block than that of the rows; the rows behind them are empty. -/
structure RowsTo (W : World) (gl B n q r : Nat) (cs : Array Value) (F : Nat → Nat → Gau) : Prop where
  box : Box W gl 32 cs
  size : cs.size = n
  rest : ∀ i, r ≤ i → i < n → cs[i]? = some (.slice none 0 0)
  done : ∀ i, i < r → ∃ Ai ci, cs[i]? = some (.slice Ai q ci) ∧ q ≤ ci ∧ ci ≤ 9223372036854775807 ∧ GausAt W B Ai q (F i) ∧ ∀ b o, Ai = some ⟨b, o, none⟩ → gl ≠ b
theorem RowsTo.below {W W' : World} {gl B n q r : Nat} {cs : Array Value} {F : Nat → Nat → Gau} (h : RowsTo W gl B n q r cs F) (hb : Below W.heap.size W W') : RowsTo W' gl B n q r cs F :=
  ⟨h.box.below hb, h.size, h.rest, fun i hi => by obtain ⟨Ai, ci, h1, h2, h3, h4, h5⟩ := h.done i hi; exact ⟨Ai, ci, h1, h2, h3, h4.below hb, h5⟩⟩
theorem RowsTo.mats {W : World} {gl B n q : Nat} {cs : Array Value} {F : Nat → Nat → Gau} (h : RowsTo W gl B n q n cs F) (hB : B ≤ gl) : MatsAt W B (some ⟨gl, 0, none⟩) n (fun _ => q) F := fun i hi => by
  obtain ⟨Ai, ci, h1, h2, h3, h4, h5⟩ := h.done i hi
  exact ⟨gl, 0, Ai, ci, rfl, hB, h.box.lt, by rw [Nat.zero_add]; exact (h.box.at_ i).trans h1, h2, h3, h4⟩
/-- One row more. -/
theorem RowsTo.next {wR W : World} {gl B n q r c : Nat} {cs : Array Value} {F : Nat → Nat → Gau} {A : Option Addr} (h : RowsTo wR gl B n q r cs F) (ho : Only gl wR W) (hx : Box W gl 32 (cs.setIfInBounds r (.slice A q c))) (hv : OwnGaus W wR.heap.size (.slice A q c) q (F r)) (hB : B ≤ wR.heap.size) (hr : r < n) : RowsTo W gl B n q (r + 1) (cs.setIfInBounds r (.slice A q c)) F := by
  have hcap := hv.cap_any
  obtain ⟨A', c', e, -, hI⟩ := ownGaus_form hv
  injection e with e1 e2 e3
  subst e1; subst e3
  refine ⟨hx, by simp [h.size], fun i hi hn => ?_, fun i hi => ?_⟩
  · rw [Array.getElem?_setIfInBounds, if_neg (by omega)]
    exact h.rest i (by omega) hn
  · by_cases e : r = i
    · subst e
      refine ⟨A, c, by rw [Array.getElem?_setIfInBounds, if_pos rfl, if_pos (by rw [h.size]; omega)], hcap.1, hcap.2, hI.weak hB, fun b o e => ?_⟩
      have h1 := h.box.lt
      rcases Nat.eq_zero_or_pos q with h0 | h0
      · subst h0
        rcases hv.2 with ⟨h2, -⟩ | ⟨g, cap, cur, h2, h3, -⟩
        · injection h2 with h2
          rw [e] at h2
          cases h2
        · injection h2 with h2
          rw [e] at h2
          injection h2 with h2
          injection h2 with h2
          omega
      · obtain ⟨b', o', e', h2, -⟩ := gaus_some hI h0
        rw [e] at e'
        injection e' with e'
        injection e' with e'
        omega
    · obtain ⟨Ai, ci, h1, h2, h3, h4, h5⟩ := h.done i (by omega)
      exact ⟨Ai, ci, by rw [Array.getElem?_setIfInBounds, if_neg e]; exact h1, h2, h3, h4.grown ho (fun b o e z => h5 b o e (by injection z)), h5⟩

set_option maxHeartbeats 16000000 in
set_option maxRecDepth 100000 in
theorem product_any (a ao b bo n m q ca cb : Nat) (X Y : Nat → Nat → Gau) (M N : Int) (w : World) (hn1 : 1 ≤ n) (hn4 : n ≤ 4) (hm1 : 1 ≤ m) (hm4 : m ≤ 4) (hq1 : 1 ≤ q) (hq9 : q ≤ 1000) (hM : 0 ≤ M) (hN : 0 ≤ N) (hMb : M ≤ 9007199254740990) (hNb : N ≤ 9007199254740990) (hMN : 8 * (M * N) ≤ 9007199254740991)
    (hA : MatsAt w 0 (some ⟨a, ao, none⟩) n (fun _ => m) X) (hC : MatsAt w 0 (some ⟨b, bo, none⟩) m (fun _ => q) Y) (hX : ∀ r k, r < n → k < m → (X r k).Within M) (hY : ∀ k c, k < m → c < q → (Y k c).Within N) :
    Calls Tryz.prog 102 #[.slice (some ⟨a, ao, none⟩) n ca, .slice (some ⟨b, bo, none⟩) m cb] w fun e w' => ∃ gl, e = .returned (.slice (some ⟨gl, 0, none⟩) n n) ∧ MatsAt w' w.heap.size (some ⟨gl, 0, none⟩) n (fun _ => q) (fun r c => gsum X Y r c m) ∧ Below w.heap.size w w' := by
  have HA := hide hA
  have HC := hide hC
  have HXW := hide hX
  have HYW := hide hY
  have h0 : 0 ≤ M * N := Int.mul_nonneg hM hN
  have HGS := hide (fun (r c k : Nat) (hr : r < n) (hc : c < q) (hk : k ≤ m) => gsum_within (X := X) (Y := Y) (r := r) (c := c) (M := M) (N := N) (k := k) fun i hi => ⟨hX r i hr (by omega), hY i c (by omega) hc⟩)
  have HST := hide (show ∀ r c k, gsum X Y r c (k + 1) = (gsum X Y r c k).plus ((X r k).mul (Y k c)) from fun _ _ _ => rfl)
  have HZ := hide (show ∀ r c, gsum X Y r c 0 = Gau.zero from fun _ _ => rfl)
  obtain ⟨P, hP⟩ : ∃ z, M * N = z := ⟨_, rfl⟩
  rw [hP] at hMN h0 HGS
  have HP := hide hP
  clear hP
  obtain ⟨S, hS⟩ : ∃ z, gsum X Y = z := ⟨_, rfl⟩
  simp only [hS] at HGS HST HZ ⊢
  clear hS
  have HMB := hide (show M ≤ 9007199254740990 from hMb)
  have HNB := hide (show N ≤ 9007199254740990 from hNb)
  have hmk := madeMat n (by omega)
  clear hA hC hX hY
  go_enter Tryz.func102, Tryz.ntmps102
  go_upto_region 2 with fail
  obtain ⟨gl, hgl⟩ : ∃ z, w.heap.size = z := ⟨_, rfl⟩
  obtain ⟨w1, hw1⟩ : ∃ z : World, z = w.alloc (.cells (madeCells #[.slice none 0 0] n) 32) := ⟨_, rfl⟩
  simp only [hgl]
  try rw [← hw1]
  have HR := hide (show RowsTo w1 gl gl n q 0 (madeCells #[.slice none 0 0] n) (fun r c => S r c m) from ⟨by rw [hw1]; exact Box.made hgl.symm, by simp [madeCells], fun i _ hi => by rw [madeMat_get, if_pos hi], fun i hi => absurd hi (Nat.not_lt_zero i)⟩)
  have HB := hide (show Below gl w w1 by rw [hw1, ← hgl]; (repeat (first | (with_reducible exact Below.refl _ _) | (with_reducible refine Go.below_drewN ?_ _) | (with_reducible refine Below.drew ?_) | (with_reducible refine Below.alloc ?_ (by first | exact Nat.le_refl _ | (simp; done) | (simp; omega) | omega) _) | (with_reducible refine Below.setCell ?_ (by first | exact Nat.le_refl _ | (simp; done) | (simp; omega) | omega) _))))
  clear hw1 hmk
  have HBS := hide (show ∀ W, Below gl w W → Below w.heap.size w W from fun W h => by rw [hgl]; exact h)
  go_wp2_with fail
  go_loopw [17] (fun i wr => ∃ (r : Nat) (cs : Array Value), r ≤ n ∧ i = .int .i64 (r : Int) ∧ Hid (RowsTo wr gl gl n q r cs (fun r c => S r c m)) ∧ Hid (Below gl w wr)) (fun i _ => n - (Go.RowKit.intOf i).toNat)
  case atStart => exact ⟨0, _, Nat.zero_le _, rfl, HR, HB⟩
  case round =>
    clear HR HB
    obtain ⟨r, cs, hr, rfl, HR, HB⟩ := hrel
    obtain ⟨wR, rfl⟩ : ∃ x : World, x = wr := ⟨_, rfl⟩
    by_cases hlt : r < n
    case neg =>
      obtain rfl : n = r := by omega
      have hltz : ¬ (n : Int) < (n : Int) := by omega
      clear HA HC HXW HYW HGS HST HZ
      go_wp2_with fail
      go_ret
      have hR := HR.out.mats (Nat.le_refl _)
      subst hgl
      first | exact ⟨_, rfl, hR, HB.out⟩ | exact ⟨hR, HB.out⟩
    have hltz : (r : Int) < (n : Int) := by omega
    obtain ⟨Ar, cr, y0, hc1, hc2, hRow, -, -⟩ := mat_row (HA.out.below (HBS.out _ HB.out)) hlt
    obtain ⟨Ab, cb0, y1, hd1, hd2, -, -, -⟩ := mat_row (HC.out.below (HBS.out _ HB.out)) hm1
    simp only [Nat.add_zero] at y1
    obtain ⟨ba, oa, rfl, -, -⟩ := gaus_some hRow (by omega)
    have HYR := hide y0
    have HBR := hide HB.out
    clear hRow
    obtain ⟨B2, hB2⟩ : ∃ z, wR.heap.size = z := ⟨_, rfl⟩
    have hgB : gl < B2 := by rw [← hB2]; exact HR.out.box.lt
    have HV := hide (OwnGaus.nil_ wR B2 (fun c => S r c m))
    have HL := hide (show Box wR gl 32 (cs.setIfInBounds r (.slice none 0 0)) by
      have e : cs.setIfInBounds r (.slice none 0 0) = cs := Array.ext_getElem? fun i => by
        rw [Array.getElem?_setIfInBounds]
        by_cases e : r = i
        · subst e; rw [if_pos rfl, if_pos (by rw [HR.out.size]; omega), HR.out.rest r (Nat.le_refl _) hlt]
        · rw [if_neg e]
      rw [e]; exact HR.out.box)
    have HO := hide (Only.refl gl wR)
    have HW := hide (show Below B2 wR wR by rw [← hB2]; exact Below.refl _ _)
    go_wp2_with fail
    clear y0 y1
    go_loopw [9, 10, 11, 26] (fun _ _ _ i wr => ∃ (c : Nat) (v : Value), c ≤ q ∧ i = .int .i64 (c : Int) ∧ Hid (OwnGaus wr B2 v c (fun c => S r c m)) ∧ Hid (Box wr gl 32 (cs.setIfInBounds r v)) ∧ Hid (Only gl wR wr) ∧ Hid (Below gl w wr)) (fun _ _ _ i _ => q - (Go.RowKit.intOf i).toNat)
    case atStart => exact ⟨0, _, Nat.zero_le _, rfl, HV, HL, HO, HB⟩
    case round =>
      clear HV HL HO HB HW
      obtain ⟨c, v, hc, rfl, HV, HL, HO, HB⟩ := hrel
      obtain ⟨wC, rfl⟩ : ∃ x : World, x = wr := ⟨_, rfl⟩
      by_cases hltc : c < q
      case neg =>
        obtain rfl : q = c := by omega
        have hltcz : ¬ (q : Int) < (q : Int) := by omega
        obtain ⟨Av, cv, rfl, -, -⟩ := ownGaus_form HV.out
        have HR2 := hide (HR.out.next HO.out HL.out (by rw [hB2]; exact HV.out) (by omega) hlt)
        clear HA HC HXW HYW HGS HST HZ 
        go_wp2_with fail
        go_roundw
        case rel => exact ⟨r + 1, _, by omega, by go_num, HR2, HB⟩
        case measure => simp [Go.RowKit.intOf]; omega
      have hltcz : (c : Int) < (q : Int) := by omega
      have hBC : B2 ≤ wC.heap.size := by rw [← hB2]; exact HO.out.size
      have HRK := hide (show ∀ W, Below gl w W → GausAt W 0 (some ⟨ba, oa, none⟩) m (X r) from fun W h => by
        obtain ⟨Ar2, cr2, y0, -, -, hRow, -, -⟩ := mat_row (HA.out.below (HBS.out _ h)) hlt
        obtain ⟨Ar3, cr3, y3, -, -, -, -, -⟩ := mat_row HA.out hlt
        have e1 := (h.cell (p := ⟨a, ao + r, none⟩) (by have := World.block_lt_of_cell? w _ y3; rw [← hgl]; exact this)).trans y3
        have e2 := (HBR.out.cell (p := ⟨a, ao + r, none⟩) (by have := World.block_lt_of_cell? w _ y3; rw [← hgl]; exact this)).trans y3
        rw [HYR.out] at e2
        rw [y0, ← e2] at e1
        injection e1 with e1
        injection e1 with e1
        subst e1
        exact hRow)
      go_wp2_with fail
      go_loopw [9, 10, 11, 31] (fun z _ _ i wr => ∃ (k u t : Nat), k ≤ m ∧ i = .int .i64 (k : Int) ∧ z = .complex .f64 u t ∧ Cpx u t (S r c k) ∧ Hid (OwnGaus wr B2 v c (fun c => S r c m)) ∧ Hid (Box wr gl 32 (cs.setIfInBounds r v)) ∧ Hid (Only gl wR wr) ∧ Hid (Below gl w wr)) (fun _ _ _ i _ => m - (Go.RowKit.intOf i).toNat)
      case atStart => exact ⟨0, 0, 0, Nat.zero_le _, rfl, rfl, by rw [HZ.out]; exact cpx_zero, HV, HL, HO, HB⟩
      case round =>
        clear HV HL HO HB hBC
        obtain ⟨k, u, t, hk, rfl, rfl, hS, HV, HL, HO, HB⟩ := hrel
        obtain ⟨wK, rfl⟩ : ∃ x : World, x = wr := ⟨_, rfl⟩
        have HS := hide hS
        clear hS
        by_cases hltk : k < m
        case neg =>
          obtain rfl : m = k := by omega
          have hltkz : ¬ (m : Int) < (m : Int) := by omega
          have hgw := (HGS.out r c m hlt hltc (Nat.le_refl _)).more (N := 9007199254740991) (by have : (m : Int) * (2 * P) ≤ 4 * (2 * P) := Int.mul_le_mul_of_nonneg_right (by omega) (by omega); omega)
          have HAG := hide (fun W => asGauss_any u t (S r c m) W HS.out hgw)
          obtain ⟨x, hx⟩ : ∃ z, S r c m = z := ⟨_, rfl⟩
          rw [hx] at HAG
          have HX := hide hx
          clear hx hgw HS HGS HST HZ HXW HYW HRK HA HC
          obtain ⟨Av, cv, rfl, hcv, -⟩ := ownGaus_form HV.out
          have hrc : (cs.setIfInBounds r (.slice Av c cv))[r]? = some (.slice Av c cv) := by rw [Array.getElem?_setIfInBounds, if_pos rfl, if_pos (by rw [HR.out.size]; omega)]
          have HLC := hide (fun W1 (h : Box W1 gl 32 (cs.setIfInBounds r (.slice Av c cv))) => (⟨(h.at_ r).trans hrc, h.free r, h.lt⟩ : W1.cell? ⟨gl, r, none⟩ = some (.slice Av c cv) ∧ W1.frozen? ⟨gl, r, none⟩ = false ∧ gl < W1.heap.size))
          clear hrc
          go_upto_region 14 with fail
          refine wp_region_held_drew (S := fun w' => gl < w'.heap.size) (by kernel_rfl) HL.out.lt (fun hHeld => ?_)
          obtain ⟨w_1, hw_1⟩ : ∃ q : World, q = wK.drew := ⟨_, rfl⟩
          rw [← hw_1] at hHeld ⊢
          have hc_1 : Below wK.heap.size wK w_1 := by rw [hw_1]; exact (Below.refl _ _).drew
          clear hw_1
          replace HV := hide (HV.out.below hc_1)
          replace HL := hide (HL.out.below hc_1)
          replace HO := hide (HO.out.below hc_1)
          replace HB := hide (HB.out.trans (hc_1.mono (by have := HB.out.size; omega)))
          clear hc_1
          refine wpAnyH_take (i := 0) (oi := ⟨some 50, _, _, _, _, _⟩) (v := ?_) rfl (by kernel_rfl) (by kernel_rfl) (by kernel_rfl) (fun _ _ _ h => h) (Or.inl ⟨by rfl, ?_⟩) (by assumption) ?_
          rotate_left
          · (intro w' hSw; (try dsimp only at hSw); go_simp <;> (with_reducible rfl))
          try simp only [Act.put, List.setIfInBounds_toArray, List.set_cons_zero, List.set_cons_succ]
          refine wpAnyH_take (i := 1) (oi := ⟨some 51, _, _, _, _, _⟩) (v := ?_) rfl (by kernel_rfl) (by kernel_rfl) (by kernel_rfl) (fun _ _ _ h => h) (Or.inl ⟨by rfl, ?_⟩) (by assumption) ?_
          rotate_left
          · (intro w' hSw; (try dsimp only at hSw); go_simp <;> (with_reducible rfl))
          try simp only [Act.put, List.setIfInBounds_toArray, List.set_cons_zero, List.set_cons_succ]
          refine wpAnyH_take (i := 2) (oi := ⟨some 52, _, _, _, _, _⟩) (v := ?_) rfl (by kernel_rfl) (by kernel_rfl) (by kernel_rfl) (fun _ _ _ h => h) (Or.inl ⟨by rfl, ?_⟩) (by assumption) ?_
          rotate_left
          · (intro w' hSw; (try dsimp only at hSw); go_simp <;> (with_reducible rfl))
          try simp only [Act.put, List.setIfInBounds_toArray, List.set_cons_zero, List.set_cons_succ]
          refine wpAnyH_take (i := 3) (oi := ⟨some 53, _, _, _, _, _⟩) (v := ?_) rfl (by kernel_rfl) (by kernel_rfl) (by kernel_rfl) (fun _ _ _ h => h) (Or.inl ⟨by rfl, ?_⟩) (by assumption) ?_
          rotate_left
          · (intro w' hSw; (try dsimp only at hSw); go_simp <;> (with_reducible rfl))
          try simp only [Act.put, List.setIfInBounds_toArray, List.set_cons_zero, List.set_cons_succ]
          refine wpAnyH_take (i := 4) (oi := ⟨some 54, _, _, _, _, _⟩) (v := ?_) rfl (by kernel_rfl) (by kernel_rfl) (by kernel_rfl) (fun _ _ _ h => h) (Or.inl ⟨by rfl, ?_⟩) (by assumption) ?_
          rotate_left
          · (intro w' hSw; (try dsimp only at hSw); go_simp <;> (with_reducible rfl))
          try simp only [Act.put, List.setIfInBounds_toArray, List.set_cons_zero, List.set_cons_succ]
          refine wpAnyH_take (i := 6) (oi := ⟨some 56, _, _, _, _, _⟩) (v := ?_) rfl (by kernel_rfl) (by kernel_rfl) (by kernel_rfl) (fun _ _ _ h => h) (Or.inl ⟨by rfl, ?_⟩) (by assumption) ?_
          rotate_left
          · (intro w' hSw; (try dsimp only at hSw); go_simp <;> (with_reducible rfl))
          try simp only [Act.put, List.setIfInBounds_toArray, List.set_cons_zero, List.set_cons_succ]
          refine wpAnyH_ready (rs := [5, 7]) (by kernel_rfl) (by simp) ?_
          refine AllReadyH.cons (o := ⟨some 55, _, _, _, _, _⟩) rfl (fun K' hK => ?_) (AllReadyH.cons (o := ⟨some 57, _, _, _, _, _⟩) rfl (fun K' hK => ?_) AllReadyH.nil)
          · skip
            obtain ⟨y0, f0, hly⟩ := HLC.out _ HL.out
            go_simp
            clear y0 f0 hly
            refine hK.out _ _ HL.out.lt (fun hHeld => ?_)
            clear hK K'
            try simp only [Act.put, List.setIfInBounds_toArray, List.set_cons_zero, List.set_cons_succ]
            refine wpAnyH_ready (rs := [7]) (by kernel_rfl) (by simp) ?_
            refine AllReadyH.cons (o := ⟨some 57, _, _, _, _, _⟩) rfl (fun K' hK => ?_) AllReadyH.nil
            go_simp
            go_at_call 106
            refine (HAG.out _).mono ?_
            rintro e_ w_2 ⟨rfl, hb_2⟩
            replace HV := hide (HV.out.below hb_2)
            replace HL := hide (HL.out.below hb_2)
            replace HO := hide (HO.out.below hb_2)
            replace HB := hide (HB.out.trans (hb_2.mono (by have := HB.out.size; omega)))
            clear hb_2
            go_wp2_with fail
            refine hK.out _ _ HL.out.lt (fun hHeld => ?_)
            clear hK K'
            try simp only [Act.put, List.setIfInBounds_toArray, List.set_cons_zero, List.set_cons_succ]
            refine wpAnyH_ready (rs := [8]) (by kernel_rfl) (by simp) ?_
            refine AllReadyH.cons (o := ⟨some 58, _, _, _, _, _⟩) rfl (fun K' hK => ?_) AllReadyH.nil
            go_simp
            obtain ⟨g9, hg9⟩ : ∃ z, w_2.heap.size = z := ⟨_, rfl⟩
            obtain ⟨w_3, hw_3⟩ : ∃ z : World, z = w_2.alloc (.cells #[.int .i64 x.re, .int .i64 x.im] 62) := ⟨_, rfl⟩
            try rw [← hw_3]
            have HP9 := hide (show Box w_3 g9 62 #[.int .i64 x.re, .int .i64 x.im] by rw [hw_3]; exact Box.made hg9.symm)
            have hc_3 : Below w_2.heap.size w_2 w_3 := by rw [hw_3]; exact (Below.refl _ _).alloc (Nat.le_refl _) _
            clear hw_3
            replace HV := hide (HV.out.below hc_3)
            replace HL := hide (HL.out.below hc_3)
            replace HO := hide (HO.out.below hc_3)
            replace HB := hide (HB.out.trans (hc_3.mono (by have := HB.out.size; omega)))
            clear hc_3
            try simp only [hg9]
            clear hg9
            refine hK.out _ _ HL.out.lt (fun hHeld => ?_)
            clear hK K'
            try simp only [Act.put, List.setIfInBounds_toArray, List.set_cons_zero, List.set_cons_succ]
            refine wpAnyH_ready (rs := [9]) (by kernel_rfl) (by simp) ?_
            refine AllReadyH.cons (o := ⟨some 59, _, _, _, _, _⟩) rfl (fun K' hK => ?_) AllReadyH.nil
            have hBK : B2 ≤ w_3.heap.size := by rw [← hB2]; exact HO.out.size
            refine step_append_gaus _ rfl (.tmp 55) (.tmp 58) rfl B2 0 (.slice Av c cv) c _ rfl HV.out (some ⟨g9, 0, none⟩) 1 1 (fun _ => x) rfl (GausAt.one HP9.out) (by omega) hBK ?_
            intro v9 w_4 ho9 hb9
            obtain ⟨A9, c9, rfl, hcv9, -⟩ := ownGaus_form ho9
            replace HL := hide (HL.out.kept hb9 hgB)
            replace HO := hide (HO.out.under (by rw [hB2]; exact hb9))
            replace HB := hide (HB.out.trans (hb9.mono (by omega)))
            have HV2 := hide (ho9.congr (G := fun c => S r c m) fun i hi => by
              show (if i < c then S r i m else x) = S r i m
              by_cases e : i < c
              · rw [if_pos e]
              · rw [if_neg e, show i = c by omega, HX.out])
            clear ho9 hb9 HV HP9 hBK
            refine hK.out _ _ HL.out.lt (fun hHeld => ?_)
            clear hK K'
            try simp only [Act.put, List.setIfInBounds_toArray, List.set_cons_zero, List.set_cons_succ]
            refine wpAnyH_take (i := 10) (oi := ⟨some 60, _, _, _, _, _⟩) (v := ?_) rfl (by kernel_rfl) (by kernel_rfl) (by kernel_rfl) (fun _ _ _ h => h) (Or.inl ⟨by rfl, ?_⟩) (by assumption) ?_
            rotate_left
            · (intro w' hSw; (try dsimp only at hSw); go_simp <;> (with_reducible rfl))
            try simp only [Act.put, List.setIfInBounds_toArray, List.set_cons_zero, List.set_cons_succ]
            refine wpAnyH_ready (rs := [11]) (by kernel_rfl) (by simp) ?_
            refine AllReadyH.cons (o := ⟨none, _, _, _, _, _⟩) rfl (fun K' hK => ?_) AllReadyH.nil
            obtain ⟨y0, f0, hly⟩ := HLC.out _ HL.out
            go_simp
            clear y0 f0 hly
            have HL2 := hide (HL.out.set_ r (.slice A9 (c + 1) c9))
            replace HV2 := hide (HV2.out.other (k := gl) r (.slice A9 (c + 1) c9) (fun e => by have := (World.ownsRow.lt HV2.out gl e).1; omega))
            replace HO := hide (HO.out.set_ r (.slice A9 (c + 1) c9))
            replace HB := hide (HB.out.setCell (p := ⟨gl, r, none⟩) (Nat.le_refl _) (.slice A9 (c + 1) c9))
            rw [show (cs.setIfInBounds r (.slice Av c cv)).setIfInBounds r (.slice A9 (c + 1) c9) = cs.setIfInBounds r (.slice A9 (c + 1) c9) from Array.setIfInBounds_setIfInBounds ..] at HL2
            obtain ⟨w_5, hw_5⟩ : ∃ z : World, w_4.setCell ⟨gl, r, none⟩ (.slice A9 (c + 1) c9) = z := ⟨_, rfl⟩
            rw [hw_5] at HL2 HV2 HO HB ⊢
            clear hw_5 HL
            have HL := HL2
            clear HL2
            refine hK.out _ _ HL.out.lt (fun hHeld => ?_)
            clear hK K'
            try simp only [Act.put, List.setIfInBounds_toArray, List.set_cons_zero, List.set_cons_succ]
            refine wpAnyH_done (by kernel_rfl) ?_ _
            clear hHeld HLC
            go_wp2_with fail
            go_roundw
            case rel => exact ⟨c + 1, _, by omega, by go_num, HV2, HL, HO, HB⟩
            case measure => simp [Go.RowKit.intOf]; omega
          · skip
            go_simp
            go_at_call 106
            refine (HAG.out _).mono ?_
            rintro e_ w_6 ⟨rfl, hb_6⟩
            replace HV := hide (HV.out.below hb_6)
            replace HL := hide (HL.out.below hb_6)
            replace HO := hide (HO.out.below hb_6)
            replace HB := hide (HB.out.trans (hb_6.mono (by have := HB.out.size; omega)))
            clear hb_6
            go_wp2_with fail
            refine hK.out _ _ HL.out.lt (fun hHeld => ?_)
            clear hK K'
            try simp only [Act.put, List.setIfInBounds_toArray, List.set_cons_zero, List.set_cons_succ]
            refine wpAnyH_ready (rs := [5, 8]) (by kernel_rfl) (by simp) ?_
            refine AllReadyH.cons (o := ⟨some 55, _, _, _, _, _⟩) rfl (fun K' hK => ?_) (AllReadyH.cons (o := ⟨some 58, _, _, _, _, _⟩) rfl (fun K' hK => ?_) AllReadyH.nil)
            · skip
              obtain ⟨y0, f0, hly⟩ := HLC.out _ HL.out
              go_simp
              clear y0 f0 hly
              refine hK.out _ _ HL.out.lt (fun hHeld => ?_)
              clear hK K'
              try simp only [Act.put, List.setIfInBounds_toArray, List.set_cons_zero, List.set_cons_succ]
              refine wpAnyH_ready (rs := [8]) (by kernel_rfl) (by simp) ?_
              refine AllReadyH.cons (o := ⟨some 58, _, _, _, _, _⟩) rfl (fun K' hK => ?_) AllReadyH.nil
              go_simp
              obtain ⟨g9, hg9⟩ : ∃ z, w_6.heap.size = z := ⟨_, rfl⟩
              obtain ⟨w_7, hw_7⟩ : ∃ z : World, z = w_6.alloc (.cells #[.int .i64 x.re, .int .i64 x.im] 62) := ⟨_, rfl⟩
              try rw [← hw_7]
              have HP9 := hide (show Box w_7 g9 62 #[.int .i64 x.re, .int .i64 x.im] by rw [hw_7]; exact Box.made hg9.symm)
              have hc_7 : Below w_6.heap.size w_6 w_7 := by rw [hw_7]; exact (Below.refl _ _).alloc (Nat.le_refl _) _
              clear hw_7
              replace HV := hide (HV.out.below hc_7)
              replace HL := hide (HL.out.below hc_7)
              replace HO := hide (HO.out.below hc_7)
              replace HB := hide (HB.out.trans (hc_7.mono (by have := HB.out.size; omega)))
              clear hc_7
              try simp only [hg9]
              clear hg9
              refine hK.out _ _ HL.out.lt (fun hHeld => ?_)
              clear hK K'
              try simp only [Act.put, List.setIfInBounds_toArray, List.set_cons_zero, List.set_cons_succ]
              refine wpAnyH_ready (rs := [9]) (by kernel_rfl) (by simp) ?_
              refine AllReadyH.cons (o := ⟨some 59, _, _, _, _, _⟩) rfl (fun K' hK => ?_) AllReadyH.nil
              have hBK : B2 ≤ w_7.heap.size := by rw [← hB2]; exact HO.out.size
              refine step_append_gaus _ rfl (.tmp 55) (.tmp 58) rfl B2 0 (.slice Av c cv) c _ rfl HV.out (some ⟨g9, 0, none⟩) 1 1 (fun _ => x) rfl (GausAt.one HP9.out) (by omega) hBK ?_
              intro v9 w_8 ho9 hb9
              obtain ⟨A9, c9, rfl, hcv9, -⟩ := ownGaus_form ho9
              replace HL := hide (HL.out.kept hb9 hgB)
              replace HO := hide (HO.out.under (by rw [hB2]; exact hb9))
              replace HB := hide (HB.out.trans (hb9.mono (by omega)))
              have HV2 := hide (ho9.congr (G := fun c => S r c m) fun i hi => by
                show (if i < c then S r i m else x) = S r i m
                by_cases e : i < c
                · rw [if_pos e]
                · rw [if_neg e, show i = c by omega, HX.out])
              clear ho9 hb9 HV HP9 hBK
              refine hK.out _ _ HL.out.lt (fun hHeld => ?_)
              clear hK K'
              try simp only [Act.put, List.setIfInBounds_toArray, List.set_cons_zero, List.set_cons_succ]
              refine wpAnyH_take (i := 10) (oi := ⟨some 60, _, _, _, _, _⟩) (v := ?_) rfl (by kernel_rfl) (by kernel_rfl) (by kernel_rfl) (fun _ _ _ h => h) (Or.inl ⟨by rfl, ?_⟩) (by assumption) ?_
              rotate_left
              · (intro w' hSw; (try dsimp only at hSw); go_simp <;> (with_reducible rfl))
              try simp only [Act.put, List.setIfInBounds_toArray, List.set_cons_zero, List.set_cons_succ]
              refine wpAnyH_ready (rs := [11]) (by kernel_rfl) (by simp) ?_
              refine AllReadyH.cons (o := ⟨none, _, _, _, _, _⟩) rfl (fun K' hK => ?_) AllReadyH.nil
              obtain ⟨y0, f0, hly⟩ := HLC.out _ HL.out
              go_simp
              clear y0 f0 hly
              have HL2 := hide (HL.out.set_ r (.slice A9 (c + 1) c9))
              replace HV2 := hide (HV2.out.other (k := gl) r (.slice A9 (c + 1) c9) (fun e => by have := (World.ownsRow.lt HV2.out gl e).1; omega))
              replace HO := hide (HO.out.set_ r (.slice A9 (c + 1) c9))
              replace HB := hide (HB.out.setCell (p := ⟨gl, r, none⟩) (Nat.le_refl _) (.slice A9 (c + 1) c9))
              rw [show (cs.setIfInBounds r (.slice Av c cv)).setIfInBounds r (.slice A9 (c + 1) c9) = cs.setIfInBounds r (.slice A9 (c + 1) c9) from Array.setIfInBounds_setIfInBounds ..] at HL2
              obtain ⟨w_9, hw_9⟩ : ∃ z : World, w_8.setCell ⟨gl, r, none⟩ (.slice A9 (c + 1) c9) = z := ⟨_, rfl⟩
              rw [hw_9] at HL2 HV2 HO HB ⊢
              clear hw_9 HL
              have HL := HL2
              clear HL2
              refine hK.out _ _ HL.out.lt (fun hHeld => ?_)
              clear hK K'
              try simp only [Act.put, List.setIfInBounds_toArray, List.set_cons_zero, List.set_cons_succ]
              refine wpAnyH_done (by kernel_rfl) ?_ _
              clear hHeld HLC
              go_wp2_with fail
              go_roundw
              case rel => exact ⟨c + 1, _, by omega, by go_num, HV2, HL, HO, HB⟩
              case measure => simp [Go.RowKit.intOf]; omega
            · skip
              go_simp
              obtain ⟨g9, hg9⟩ : ∃ z, w_6.heap.size = z := ⟨_, rfl⟩
              obtain ⟨w_10, hw_10⟩ : ∃ z : World, z = w_6.alloc (.cells #[.int .i64 x.re, .int .i64 x.im] 62) := ⟨_, rfl⟩
              try rw [← hw_10]
              have HP9 := hide (show Box w_10 g9 62 #[.int .i64 x.re, .int .i64 x.im] by rw [hw_10]; exact Box.made hg9.symm)
              have hc_10 : Below w_6.heap.size w_6 w_10 := by rw [hw_10]; exact (Below.refl _ _).alloc (Nat.le_refl _) _
              clear hw_10
              replace HV := hide (HV.out.below hc_10)
              replace HL := hide (HL.out.below hc_10)
              replace HO := hide (HO.out.below hc_10)
              replace HB := hide (HB.out.trans (hc_10.mono (by have := HB.out.size; omega)))
              clear hc_10
              try simp only [hg9]
              clear hg9
              refine hK.out _ _ HL.out.lt (fun hHeld => ?_)
              clear hK K'
              try simp only [Act.put, List.setIfInBounds_toArray, List.set_cons_zero, List.set_cons_succ]
              refine wpAnyH_ready (rs := [5]) (by kernel_rfl) (by simp) ?_
              refine AllReadyH.cons (o := ⟨some 55, _, _, _, _, _⟩) rfl (fun K' hK => ?_) AllReadyH.nil
              obtain ⟨y0, f0, hly⟩ := HLC.out _ HL.out
              go_simp
              clear y0 f0 hly
              refine hK.out _ _ HL.out.lt (fun hHeld => ?_)
              clear hK K'
              try simp only [Act.put, List.setIfInBounds_toArray, List.set_cons_zero, List.set_cons_succ]
              refine wpAnyH_ready (rs := [9]) (by kernel_rfl) (by simp) ?_
              refine AllReadyH.cons (o := ⟨some 59, _, _, _, _, _⟩) rfl (fun K' hK => ?_) AllReadyH.nil
              have hBK : B2 ≤ w_10.heap.size := by rw [← hB2]; exact HO.out.size
              refine step_append_gaus _ rfl (.tmp 55) (.tmp 58) rfl B2 0 (.slice Av c cv) c _ rfl HV.out (some ⟨g9, 0, none⟩) 1 1 (fun _ => x) rfl (GausAt.one HP9.out) (by omega) hBK ?_
              intro v9 w_11 ho9 hb9
              obtain ⟨A9, c9, rfl, hcv9, -⟩ := ownGaus_form ho9
              replace HL := hide (HL.out.kept hb9 hgB)
              replace HO := hide (HO.out.under (by rw [hB2]; exact hb9))
              replace HB := hide (HB.out.trans (hb9.mono (by omega)))
              have HV2 := hide (ho9.congr (G := fun c => S r c m) fun i hi => by
                show (if i < c then S r i m else x) = S r i m
                by_cases e : i < c
                · rw [if_pos e]
                · rw [if_neg e, show i = c by omega, HX.out])
              clear ho9 hb9 HV HP9 hBK
              refine hK.out _ _ HL.out.lt (fun hHeld => ?_)
              clear hK K'
              try simp only [Act.put, List.setIfInBounds_toArray, List.set_cons_zero, List.set_cons_succ]
              refine wpAnyH_take (i := 10) (oi := ⟨some 60, _, _, _, _, _⟩) (v := ?_) rfl (by kernel_rfl) (by kernel_rfl) (by kernel_rfl) (fun _ _ _ h => h) (Or.inl ⟨by rfl, ?_⟩) (by assumption) ?_
              rotate_left
              · (intro w' hSw; (try dsimp only at hSw); go_simp <;> (with_reducible rfl))
              try simp only [Act.put, List.setIfInBounds_toArray, List.set_cons_zero, List.set_cons_succ]
              refine wpAnyH_ready (rs := [11]) (by kernel_rfl) (by simp) ?_
              refine AllReadyH.cons (o := ⟨none, _, _, _, _, _⟩) rfl (fun K' hK => ?_) AllReadyH.nil
              obtain ⟨y0, f0, hly⟩ := HLC.out _ HL.out
              go_simp
              clear y0 f0 hly
              have HL2 := hide (HL.out.set_ r (.slice A9 (c + 1) c9))
              replace HV2 := hide (HV2.out.other (k := gl) r (.slice A9 (c + 1) c9) (fun e => by have := (World.ownsRow.lt HV2.out gl e).1; omega))
              replace HO := hide (HO.out.set_ r (.slice A9 (c + 1) c9))
              replace HB := hide (HB.out.setCell (p := ⟨gl, r, none⟩) (Nat.le_refl _) (.slice A9 (c + 1) c9))
              rw [show (cs.setIfInBounds r (.slice Av c cv)).setIfInBounds r (.slice A9 (c + 1) c9) = cs.setIfInBounds r (.slice A9 (c + 1) c9) from Array.setIfInBounds_setIfInBounds ..] at HL2
              obtain ⟨w_12, hw_12⟩ : ∃ z : World, w_11.setCell ⟨gl, r, none⟩ (.slice A9 (c + 1) c9) = z := ⟨_, rfl⟩
              rw [hw_12] at HL2 HV2 HO HB ⊢
              clear hw_12 HL
              have HL := HL2
              clear HL2
              refine hK.out _ _ HL.out.lt (fun hHeld => ?_)
              clear hK K'
              try simp only [Act.put, List.setIfInBounds_toArray, List.set_cons_zero, List.set_cons_succ]
              refine wpAnyH_done (by kernel_rfl) ?_ _
              clear hHeld HLC
              go_wp2_with fail
              go_roundw
              case rel => exact ⟨c + 1, _, by omega, by go_num, HV2, HL, HO, HB⟩
              case measure => simp [Go.RowKit.intOf]; omega
        have hltkz : (k : Int) < (m : Int) := by omega
        have hg0 := gaus_at (HRK.out _ HB.out) hltk
        have hxw := HXW.out r k hlt hltk
        have hyw := HYW.out k c hltk hltc
        have hst := HST.out r c k
        obtain ⟨Ab, cb1, y1, hd1, hd2, hYr, -, -⟩ := mat_row (HC.out.below (HBS.out _ HB.out)) hltk
        obtain ⟨bb, ob, rfl, -, -⟩ := gaus_some hYr (by omega)
        obtain ⟨y2, y3⟩ := gaus_at hYr hltc
        have hsum := (HGS.out r c (k + 1) hlt hltc (by omega)).more (N := 9007199254740991) (by have : ((k + 1 : Nat) : Int) * (2 * P) ≤ 4 * (2 * P) := Int.mul_le_mul_of_nonneg_right (by omega) (by omega); omega)
        rw [hst] at hsum
        obtain ⟨x, hx⟩ : ∃ z, X r k = z := ⟨_, rfl⟩
        obtain ⟨y, hy⟩ : ∃ z, Y k c = z := ⟨_, rfl⟩
        rw [hx] at hg0 hxw hst hsum
        rw [hy] at y2 y3 hyw hst hsum
        clear hx hy
        obtain ⟨mu, mt, hm, hmc⟩ := cpx_mul (cpx_of hxw (by have := HP.out; have h9 : M ≤ 9007199254740990 := HMB.out; omega)) (cpx_of hyw (by have h9 : N ≤ 9007199254740990 := HNB.out; omega)) hxw hyw (by rw [HP.out]; omega)
        obtain ⟨su, st, hs2, hsc⟩ := cpx_sum HS.out hmc hsum (by decide)
        rw [← hst] at hsc
        have HS2 := hide hsc
        have HMUL := hide (fun W => run_complex_mul (P := Tryz.prog) W 123 _ _ _ _ _ _ hm)
        have HADD := hide (fun W => run_complex_sum (P := Tryz.prog) W .add (.inl rfl) 123 .f64 _ _ _ _ _ _ hs2)
        obtain ⟨xr, hxr⟩ : ∃ z, x.re = z := ⟨_, rfl⟩
        obtain ⟨xi, hxi⟩ : ∃ z, x.im = z := ⟨_, rfl⟩
        obtain ⟨yr, hyr⟩ : ∃ z, y.re = z := ⟨_, rfl⟩
        obtain ⟨yi, hyi⟩ : ∃ z, y.im = z := ⟨_, rfl⟩
        simp only [hxr, hxi, hyr, hyi] at HMUL hg0 y2 y3
        clear hxr hxi hyr hyi hmc hsc hm hs2 hst hsum hxw hyw HS
        obtain ⟨y4, y5⟩ := hg0
        have HYC := hide (fun W1 (h : Below wK.heap.size wK W1) => (⟨bcellW h y1, bcellW h y2, bcellW h y3⟩ : W1.cell? ⟨b, bo + k, none⟩ = some (.slice (some ⟨bb, ob, none⟩) q cb1) ∧ W1.cell? ⟨bb, ob + c * 2, none⟩ = some (.int .i64 yr) ∧ W1.cell? ⟨bb, ob + c * 2 + 1, none⟩ = some (.int .i64 yi)))
        have HW := hide (Below.refl wK.heap.size wK)
        clear y1 y2 y3 hYr
        go_upto_region 12 with fail
        clear y4 y5
        obtain ⟨b11, hb11⟩ : ∃ z, wK.heap.size = z := ⟨_, rfl⟩
        obtain ⟨w3, hw3⟩ : ∃ z : World, z = wK.alloc (.cells #[.int .i64 xr, .int .i64 xi] 62) := ⟨_, rfl⟩
        try rw [← hw3]
        try simp only [hb11]
        have HG := hide (show Box w3 b11 62 #[.int .i64 xr, .int .i64 xi] by rw [hw3]; exact Box.made hb11.symm)
        have hc3 : Below wK.heap.size wK w3 := by rw [hw3]; (repeat (first | (with_reducible exact Below.refl _ _) | (with_reducible refine Go.below_drewN ?_ _) | (with_reducible refine Below.drew ?_) | (with_reducible refine Below.alloc ?_ (by first | exact Nat.le_refl _ | (simp; done) | (simp; omega) | omega) _) | (with_reducible refine Below.setCell ?_ (by first | exact Nat.le_refl _ | (simp; done) | (simp; omega) | omega) _)))
        clear hw3 hb11
        replace HV := hide (HV.out.below hc3)
        replace HL := hide (HL.out.below hc3)
        replace HO := hide (HO.out.below hc3)
        replace HB := hide (HB.out.trans (hc3.mono (by have := HB.out.size; omega)))
        replace HW := hide (HW.out.trans (hc3.mono HW.out.size))
        clear hc3
        refine wp_region_held_drew (S := fun w' => w'.cell? ⟨b11, 0, none⟩ = some (.int .i64 xr) ∧ w'.cell? ⟨b11, 1, none⟩ = some (.int .i64 xi) ∧ w'.cell? ⟨b, bo + k, none⟩ = some (.slice (some ⟨bb, ob, none⟩) q cb1) ∧ w'.cell? ⟨bb, ob + c * 2, none⟩ = some (.int .i64 yr) ∧ w'.cell? ⟨bb, ob + c * 2 + 1, none⟩ = some (.int .i64 yi)) (by kernel_rfl) ⟨HG.out.at_ 0, HG.out.at_ 1, HYC.out _ HW.out.drew⟩ (fun hHeld => ?_)
        obtain ⟨w_13, hw_13⟩ : ∃ q : World, q = w3.drew := ⟨_, rfl⟩
        rw [← hw_13] at hHeld ⊢
        have hc_13 : Below w3.heap.size w3 w_13 := by rw [hw_13]; exact (Below.refl _ _).drew
        clear hw_13
        replace HG := hide (HG.out.below hc_13)
        replace HV := hide (HV.out.below hc_13)
        replace HL := hide (HL.out.below hc_13)
        replace HO := hide (HO.out.below hc_13)
        replace HB := hide (HB.out.trans (hc_13.mono (by have := HB.out.size; omega)))
        replace HW := hide (HW.out.trans (hc_13.mono HW.out.size))
        clear hc_13
        refine wpAnyH_take (i := 0) (oi := ⟨some 36, _, _, _, _, _⟩) (v := ?_) rfl (by kernel_rfl) (by kernel_rfl) (by kernel_rfl) (fun _ _ _ h => h) (Or.inl ⟨by rfl, ?_⟩) (by assumption) ?_
        rotate_left
        · (intro w' hSw; (try dsimp only at hSw); go_simp <;> (with_reducible rfl))
        try simp only [Act.put, List.setIfInBounds_toArray, List.set_cons_zero, List.set_cons_succ]
        refine wpAnyH_take (i := 1) (oi := ⟨some 37, _, _, _, _, _⟩) (v := ?_) rfl (by kernel_rfl) (by kernel_rfl) (by kernel_rfl) (fun _ _ _ h => h) (Or.inl ⟨by rfl, ?_⟩) (by assumption) ?_
        rotate_left
        · (intro w' hSw; (try dsimp only at hSw); go_simp <;> (with_reducible rfl))
        try simp only [Act.put, List.setIfInBounds_toArray, List.set_cons_zero, List.set_cons_succ]
        refine wpAnyH_take (i := 3) (oi := ⟨some 39, _, _, _, _, _⟩) (v := ?_) rfl (by kernel_rfl) (by kernel_rfl) (by kernel_rfl) (fun _ _ _ h => h) (Or.inl ⟨by rfl, ?_⟩) (by assumption) ?_
        rotate_left
        · (intro w' hSw; (try dsimp only at hSw); go_simp <;> (with_reducible rfl))
        try simp only [Act.put, List.setIfInBounds_toArray, List.set_cons_zero, List.set_cons_succ]
        refine wpAnyH_take (i := 4) (oi := ⟨some 40, _, _, _, _, _⟩) (v := ?_) rfl (by kernel_rfl) (by kernel_rfl) (by kernel_rfl) (fun _ _ _ h => h) (Or.inl ⟨by rfl, ?_⟩) (by assumption) ?_
        rotate_left
        · (intro w' hSw; (try dsimp only at hSw); go_simp <;> (with_reducible rfl))
        try simp only [Act.put, List.setIfInBounds_toArray, List.set_cons_zero, List.set_cons_succ]
        refine wpAnyH_take (i := 5) (oi := ⟨some 41, _, _, _, _, _⟩) (v := ?_) rfl (by kernel_rfl) (by kernel_rfl) (by kernel_rfl) (fun _ _ _ h => h) (Or.inl ⟨by rfl, ?_⟩) (by assumption) ?_
        rotate_left
        · (intro w' hSw; (try dsimp only at hSw); go_simp <;> (with_reducible rfl))
        try simp only [Act.put, List.setIfInBounds_toArray, List.set_cons_zero, List.set_cons_succ]
        refine wpAnyH_take (i := 6) (oi := ⟨some 42, _, _, _, _, _⟩) (v := ?_) rfl (by kernel_rfl) (by kernel_rfl) (by kernel_rfl) (fun _ _ _ h => h) (Or.inl ⟨by rfl, ?_⟩) (by assumption) ?_
        rotate_left
        · (intro w' hSw; (try dsimp only at hSw); go_simp <;> (with_reducible rfl))
        try simp only [Act.put, List.setIfInBounds_toArray, List.set_cons_zero, List.set_cons_succ]
        refine wpAnyH_take (i := 7) (oi := ⟨some 43, _, _, _, _, _⟩) (v := ?_) rfl (by kernel_rfl) (by kernel_rfl) (by kernel_rfl) (fun _ _ _ h => h) (Or.inl ⟨by rfl, ?_⟩) (by assumption) ?_
        rotate_left
        · (intro w' hSw; (try dsimp only at hSw); go_simp <;> (with_reducible rfl))
        try simp only [Act.put, List.setIfInBounds_toArray, List.set_cons_zero, List.set_cons_succ]
        refine wpAnyH_take (i := 8) (oi := ⟨some 44, _, _, _, _, _⟩) (v := ?_) rfl (by kernel_rfl) (by kernel_rfl) (by kernel_rfl) (fun _ _ _ h => h) (Or.inl ⟨by rfl, ?_⟩) (by assumption) ?_
        rotate_left
        · (intro w' hSw; (try dsimp only at hSw); go_simp <;> (with_reducible rfl))
        try simp only [Act.put, List.setIfInBounds_toArray, List.set_cons_zero, List.set_cons_succ]
        refine wpAnyH_take (i := 9) (oi := ⟨some 45, _, _, _, _, _⟩) (v := ?_) rfl (by kernel_rfl) (by kernel_rfl) (by kernel_rfl) (fun _ _ _ h => h) (Or.inl ⟨by rfl, ?_⟩) (by assumption) ?_
        rotate_left
        · (intro w' hSw; (try dsimp only at hSw); go_simp <;> (with_reducible rfl))
        try simp only [Act.put, List.setIfInBounds_toArray, List.set_cons_zero, List.set_cons_succ]
        refine wpAnyH_ready (rs := [2]) (by kernel_rfl) (by simp) ?_
        refine AllReadyH.cons (o := ⟨some 38, _, _, _, _, _⟩) rfl (fun K' hK => ?_) AllReadyH.nil
        go_simp
        go_at_call 104
        refine (asComplexS_any _ _ _).mono ?_
        rintro e_ w_14 ⟨rfl, hb_14⟩
        replace HG := hide (HG.out.below hb_14)
        replace HV := hide (HV.out.below hb_14)
        replace HL := hide (HL.out.below hb_14)
        replace HO := hide (HO.out.below hb_14)
        replace HB := hide (HB.out.trans (hb_14.mono (by have := HB.out.size; omega)))
        replace HW := hide (HW.out.trans (hb_14.mono HW.out.size))
        clear hb_14
        go_wp2_with fail
        refine hK.out _ _ ⟨HG.out.at_ 0, HG.out.at_ 1, HYC.out _ HW.out⟩ (fun hHeld => ?_)
        clear hK K'
        try simp only [Act.put, List.setIfInBounds_toArray, List.set_cons_zero, List.set_cons_succ]
        refine wpAnyH_ready (rs := [10]) (by kernel_rfl) (by simp) ?_
        refine AllReadyH.cons (o := ⟨some 46, _, _, _, _, _⟩) rfl (fun K' hK => ?_) AllReadyH.nil
        go_simp
        go_at_call 104
        refine (asComplexS_any _ _ _).mono ?_
        rintro e_ w_15 ⟨rfl, hb_15⟩
        replace HG := hide (HG.out.below hb_15)
        replace HV := hide (HV.out.below hb_15)
        replace HL := hide (HL.out.below hb_15)
        replace HO := hide (HO.out.below hb_15)
        replace HB := hide (HB.out.trans (hb_15.mono (by have := HB.out.size; omega)))
        replace HW := hide (HW.out.trans (hb_15.mono HW.out.size))
        clear hb_15
        go_wp2_with fail
        refine hK.out _ _ ⟨HG.out.at_ 0, HG.out.at_ 1, HYC.out _ HW.out⟩ (fun hHeld => ?_)
        clear hK K'
        try simp only [Act.put, List.setIfInBounds_toArray, List.set_cons_zero, List.set_cons_succ]
        refine wpAnyH_take (i := 11) (oi := ⟨some 47, _, _, _, _, _⟩) (v := (.complex .f64 mu mt)) rfl (by kernel_rfl) (by kernel_rfl) (by kernel_rfl) (fun _ _ _ h => h) (Or.inl ⟨by rfl, fun w' hSw => by go_simp; simp [HMUL.out]⟩) (by assumption) ?_
        try simp only [Act.put, List.setIfInBounds_toArray, List.set_cons_zero, List.set_cons_succ]
        refine wpAnyH_take (i := 12) (oi := ⟨some 48, _, _, _, _, _⟩) (v := (.complex .f64 su st)) rfl (by kernel_rfl) (by kernel_rfl) (by kernel_rfl) (fun _ _ _ h => h) (Or.inl ⟨by rfl, fun w' hSw => by go_simp; simp [HADD.out]⟩) (by assumption) ?_
        try simp only [Act.put, List.setIfInBounds_toArray, List.set_cons_zero, List.set_cons_succ]
        refine wpAnyH_take (i := 13) (oi := ⟨some 9, _, _, _, _, _⟩) (v := ?_) rfl (by kernel_rfl) (by kernel_rfl) (by kernel_rfl) (fun _ _ _ h => h) (Or.inl ⟨by rfl, ?_⟩) (by assumption) ?_
        rotate_left
        · (intro w' hSw; (try dsimp only at hSw); go_simp <;> (with_reducible rfl))
        try simp only [Act.put, List.setIfInBounds_toArray, List.set_cons_zero, List.set_cons_succ]
        refine wpAnyH_done (by kernel_rfl) ?_ _
        clear hHeld HYC HW HG
        go_wp2_with fail
        go_roundw
        case rel => exact ⟨k + 1, su, st, by omega, by go_num, rfl, HS2.out, HV, HL, HO, HB⟩
        case measure => simp [Go.RowKit.intOf]; omega
end Go.Proofs.YtcdplfjegopmdaaGreat
