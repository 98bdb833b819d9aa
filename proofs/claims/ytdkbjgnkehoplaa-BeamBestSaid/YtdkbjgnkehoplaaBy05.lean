/- Lemmas: E3. -/
import Derived.BigQuiet
import Derived.Deep.DeepCutAuto
import Derived.Test.YtdkbjgnkehoplaaBy04
set_option linter.unusedVariables false
set_option linter.unusedSimpArgs false
/- asGauss and turnedSum of the code: sums of complex numbers turned by eighths, in floats that are whole. -/
namespace Go.Proofs.Ytdkbjgnkehoplaa
open Go.RowKit Go.Great
theorem Box.put1 {w : World} {b : Nat} {t : TypeId} {p0 : Value} (h : Box w b t #[p0]) (u0 : Value) : Box (w.setCell ⟨b, 0, none⟩ u0) b t #[u0] := by
  have := h.set_ 0 u0
  simpa using this
theorem Box.put2 {w : World} {b : Nat} {t : TypeId} {p0 p1 : Value} (h : Box w b t #[p0, p1]) (u0 u1 : Value) : Box ((w.setCell ⟨b, 0, none⟩ u0).setCell ⟨b, 1, none⟩ u1) b t #[u0, u1] := by
  have := (h.set_ 0 u0).set_ 1 u1
  simpa using this
theorem Box.first2 {w : World} {b : Nat} {t : TypeId} {p0 p1 : Value} (h : Box w b t #[p0, p1]) (u0 : Value) : Box (w.setCell ⟨b, 0, none⟩ u0) b t #[u0, p1] := by
  have := h.set_ 0 u0
  simpa using this
theorem Box.second2 {w : World} {b : Nat} {t : TypeId} {p0 p1 : Value} (h : Box w b t #[p0, p1]) (u1 : Value) : Box (w.setCell ⟨b, 1, none⟩ u1) b t #[p0, u1] := by
  have := h.set_ 1 u1
  simpa using this
/-- A slice of n complex numbers with these bits. -/
def CpxAt (w : World) (A : Option Addr) (n : Nat) (U V : Nat → Nat) : Prop :=
  ∀ k, k < n → ∃ b o, A = some ⟨b, o, none⟩ ∧ b < w.heap.size ∧ w.cell? ⟨b, o + k, none⟩ = some (.complex .f64 (U k) (V k))
theorem CpxAt.below {w w' : World} {A : Option Addr} {n : Nat} {U V : Nat → Nat} (h : CpxAt w A n U V) (hb : Below w.heap.size w w') : CpxAt w' A n U V := fun k hk => by
  obtain ⟨b, o, e, h2, h3⟩ := h k hk
  exact ⟨b, o, e, Nat.lt_of_lt_of_le h2 hb.size, (hb.cell (p := ⟨b, o + k, none⟩) h2).trans h3⟩
/-- Whole complex numbers, turned by the phases F and added up, without those that are off. -/
def gnum (x : Gau) : Num := ⟨x.re, 0, x.im, 0⟩
def tsN (F : Nat → Int) (X : Nat → Gau) : Nat → Num
  | 0 => Num.zero
  | k + 1 => if F k = -1 then tsN F X k else (tsN F X k).add ((gnum (X k)).turns (F k).toNat)
theorem gnum_turns (x : Gau) {q r : Nat} (hq : q < 4) (hr : r < 2) : (gnum x).turns (2 * q + r) = if r = 0 then ⟨(itm x q).re, 0, (itm x q).im, 0⟩ else ⟨0, (itm x q).re, 0, (itm x q).im⟩ := by
  obtain rfl | rfl | rfl | rfl : q = 0 ∨ q = 1 ∨ q = 2 ∨ q = 3 := by omega
  all_goals
    obtain rfl | rfl : r = 0 ∨ r = 1 := by omega
    all_goals simp [Num.turns, Num.turn, gnum, itm, cosI, sinI]
theorem Gau.Within.num {M : Int} {x : Gau} (h : x.Within M) : (gnum x).Within M := by
  have h1 := h.re
  have h2 := h.im
  exact ⟨h1, by show -M ≤ (0 : Int) ∧ (0 : Int) ≤ M; omega, h2, by show -M ≤ (0 : Int) ∧ (0 : Int) ≤ M; omega⟩
theorem tsN_within {F : Nat → Int} {X : Nat → Gau} {M : Int} (hM : 0 ≤ M) : ∀ n, (∀ j, j < n → (X j).Within M) → (tsN F X n).Within (n * M)
  | 0, _ => by
    rw [show ((0 : Nat) : Int) * M = 0 from Int.zero_mul M]
    show Num.zero.Within 0
    exact ⟨by decide, by decide, by decide, by decide⟩
  | n + 1, h => by
    have h1 := tsN_within (F := F) hM n fun j hj => h j (by omega)
    have e : ((n + 1 : Nat) : Int) * M = n * M + M := by rw [Int.natCast_succ, Int.add_mul, Int.one_mul]
    rw [e]
    show (if F n = -1 then tsN F X n else (tsN F X n).add ((gnum (X n)).turns (F n).toNat)).Within (n * M + M)
    split
    · exact h1.more (by omega)
    · exact h1.add ((h n (Nat.lt_succ_self n)).num.turns _)
theorem tsN_even {F : Nat → Int} {X : Nat → Gau} {k q : Nat} (hq : q < 4) (hf : F k = ((2 * q : Nat) : Int)) : tsN F X (k + 1) = ⟨(tsN F X k).a + (itm (X k) q).re, (tsN F X k).b, (tsN F X k).c + (itm (X k) q).im, (tsN F X k).d⟩ := by
  show (if F k = -1 then tsN F X k else (tsN F X k).add ((gnum (X k)).turns (F k).toNat)) = _
  rw [if_neg (by omega), hf, show ((2 * q : Nat) : Int).toNat = 2 * q + 0 from by omega, gnum_turns (X k) hq (by decide), if_pos rfl]
  simp [Num.add]
theorem tsN_odd {F : Nat → Int} {X : Nat → Gau} {k q : Nat} (hq : q < 4) (hf : F k = ((2 * q + 1 : Nat) : Int)) : tsN F X (k + 1) = ⟨(tsN F X k).a, (tsN F X k).b + (itm (X k) q).re, (tsN F X k).c, (tsN F X k).d + (itm (X k) q).im⟩ := by
  show (if F k = -1 then tsN F X k else (tsN F X k).add ((gnum (X k)).turns (F k).toNat)) = _
  rw [if_neg (by omega), hf, show ((2 * q + 1 : Nat) : Int).toNat = 2 * q + 1 from by omega, gnum_turns (X k) hq (by decide), if_neg (by decide)]
  simp [Num.add]
theorem tsN_off {F : Nat → Int} {X : Nat → Gau} {k : Nat} (hf : F k = -1) : tsN F X (k + 1) = tsN F X k := if_pos hf
/-- A power of i times a number, in floats. -/
theorem power_times {x : Gau} {q u v : Nat} (hq : q < 4) (hu : Whole u x.re) (hv : Whole v x.im) (hx : x.Within 1000000000) : ∃ mu mv, cMulBits (cosB q) (sinB q) u v = some (mu, mv) ∧ Whole mu (itm x q).re ∧ Whole mv (itm x q).im := by
  obtain ⟨h1, h2⟩ := hx
  have h := whole_cmul (cos_whole q) (sin_whole q) hu hv (by rcases unit4 hq with ⟨e1, e2⟩ | ⟨e1, e2⟩ | ⟨e1, e2⟩ | ⟨e1, e2⟩ <;> (simp only [e1, e2]; refine abs_lt (M := 2000000000) ?_ (by decide); omega)) (by rcases unit4 hq with ⟨e1, e2⟩ | ⟨e1, e2⟩ | ⟨e1, e2⟩ | ⟨e1, e2⟩ <;> (simp only [e1, e2]; refine abs_lt (M := 2000000000) ?_ (by decide); omega)) (by rcases unit4 hq with ⟨e1, e2⟩ | ⟨e1, e2⟩ | ⟨e1, e2⟩ | ⟨e1, e2⟩ <;> (simp only [e1, e2]; refine abs_lt (M := 2000000000) ?_ (by decide); omega)) (by rcases unit4 hq with ⟨e1, e2⟩ | ⟨e1, e2⟩ | ⟨e1, e2⟩ | ⟨e1, e2⟩ <;> (simp only [e1, e2]; refine abs_lt (M := 2000000000) ?_ (by decide); omega)) (by rcases unit4 hq with ⟨e1, e2⟩ | ⟨e1, e2⟩ | ⟨e1, e2⟩ | ⟨e1, e2⟩ <;> (simp only [e1, e2]; refine abs_lt (M := 2000000000) ?_ (by decide); omega)) (by rcases unit4 hq with ⟨e1, e2⟩ | ⟨e1, e2⟩ | ⟨e1, e2⟩ | ⟨e1, e2⟩ <;> (simp only [e1, e2]; refine abs_lt (M := 2000000000) ?_ (by decide); omega))
  obtain ⟨mu, mv, e, w1, w2⟩ := h
  refine ⟨mu, mv, e, ?_, ?_⟩
  · rw [show (itm x q).re = cosI q * x.re - sinI q * x.im from by show x.re * cosI q - x.im * sinI q = _; rw [Int.mul_comm x.re, Int.mul_comm x.im]]; exact w1
  · rw [show (itm x q).im = cosI q * x.im + sinI q * x.re from by show x.re * sinI q + x.im * cosI q = _; rw [Int.mul_comm x.re, Int.mul_comm x.im, Int.add_comm]]; exact w2
set_option maxHeartbeats 1000000 in
set_option maxRecDepth 100000 in
theorem asGauss_any (u v : Nat) (x y : Int) (w : World) (hu : Whole u x) (hv : Whole v y) (hx : x.natAbs < 2 ^ 53) (hy : y.natAbs < 2 ^ 53) :
    Calls Try.prog 81 #[.complex .f64 u v] w fun e w' => e = .returned (.agg #[.int .i64 x, .int .i64 y]) ∧ Below w.heap.size w w' := by
  have c1 := fun W => run_convert_float_int (P := Try.prog) W 165 3 .f64 .i64 u x rfl Try.underlying3 (whole_toInt hu hx)
  have c2 := fun W => run_convert_float_int (P := Try.prog) W 165 3 .f64 .i64 v y rfl Try.underlying3 (whole_toInt hv hy)
  clear hu hv hx hy
  go_enter Try.func81, Try.ntmps81
  go_wp2_with fail
  have hbx : Box (w.alloc (.cells #[.int .i64 x, .int .i64 y] 53)) w.heap.size 53 #[.int .i64 x, .int .i64 y] := Box.made rfl
  obtain ⟨y0, y1, -⟩ := hbx.c2
  refine bodyPost_ret (v := .agg #[.int .i64 x, .int .i64 y]) ?_ rfl ⟨rfl, by (repeat (first | (with_reducible exact Below.refl _ _) | (with_reducible refine Go.below_drewN ?_ _) | (with_reducible refine Below.drew ?_) | (with_reducible refine Below.alloc ?_ (by first | exact Nat.le_refl _ | (simp; done) | (simp; omega) | omega) _) | (with_reducible refine Below.setCell ?_ (by first | exact Nat.le_refl _ | (simp; done) | (simp; omega) | omega) _)))⟩
  simp [results, Try.results81, go_sem, y0, y1]
set_option maxHeartbeats 8000000 in
set_option maxRecDepth 100000 in
theorem turnedSum_any (A B : Option Addr) (n c d : Nat) (F : Nat → Int) (U V : Nat → Nat) (X : Nat → Gau) (w : World) (hn : n ≤ 1000) (hI : IntsAt w 0 A n F) (hC : CpxAt w B n U V) (hF : ∀ j, j < n → -1 ≤ F j ∧ F j ≤ 7) (hU : ∀ j, j < n → Whole (U j) (X j).re ∧ Whole (V j) (X j).im) (hX : ∀ j, j < n → (X j).Within 1000000) :
    Calls Try.prog 118 #[.slice A n c, .slice B n d] w fun e w' => e = .returned (.agg #[.int .i64 (tsN F X n).a, .int .i64 (tsN F X n).b, .int .i64 (tsN F X n).c, .int .i64 (tsN F X n).d]) ∧ Below w.heap.size w w' := by
  have HI := hide hI
  have HC := hide hC
  have HF := hide hF
  have HU := hide hU
  have HX := hide hX
  have HTW := hide (fun k (hk : k ≤ n) => (tsN_within (F := F) (X := X) (M := 1000000) (by decide) k fun j hj => hX j (by omega)).more (N := 1000000000) (by omega))
  have HTE := hide (fun k q (hq : q < 4) (hf : F k = ((2 * q : Nat) : Int)) => tsN_even (X := X) hq hf)
  have HTO := hide (fun k q (hq : q < 4) (hf : F k = ((2 * q + 1 : Nat) : Int)) => tsN_odd (X := X) hq hf)
  have HT1 := hide (fun k (hf : F k = -1) => tsN_off (X := X) hf)
  have HT0 := hide (show tsN F X 0 = Num.zero from rfl)
  obtain ⟨T, hT⟩ : ∃ z, tsN F X = z := ⟨_, rfl⟩
  simp only [hT] at HTW HTE HTO HT1 HT0 ⊢
  clear hI hC hF hU hX hT
  go_enter Try.func118, Try.ntmps118
  go_upto_region 1 with fail
  obtain ⟨w_1, hw_1⟩ : ∃ q : World, q = w.alloc (.cells #[.int .i64 0, .int .i64 0, .int .i64 0, .int .i64 0] 109) := ⟨_, rfl⟩
  rw [← hw_1]
  have HR := hide (show Box w_1 w.heap.size 109 #[.int .i64 0, .int .i64 0, .int .i64 0, .int .i64 0] by rw [hw_1]; exact Box.made rfl)
  have HB := hide (show Below w.heap.size w w_1 by rw [hw_1]; (repeat (first | (with_reducible exact Below.refl _ _) | (with_reducible refine Go.below_drewN ?_ _) | (with_reducible refine Below.drew ?_) | (with_reducible refine Below.alloc ?_ (by first | exact Nat.le_refl _ | (simp; done) | (simp; omega) | omega) _) | (with_reducible refine Below.setCell ?_ (by first | exact Nat.le_refl _ | (simp; done) | (simp; omega) | omega) _))))
  clear hw_1
  obtain ⟨b5, hb5⟩ : ∃ g, w_1.heap.size = g := ⟨_, rfl⟩
  go_upto_region 2 with (first
      | (refine wpList_store_box rfl 177 (.tmp 5) (.tmp 11) rfl b5 #[.complex .f64 0 0, .complex .f64 0 0, .complex .f64 0 0, .complex .f64 0 0] #[.complex .f64 4607182418800017408 0, .complex .f64 0 4607182418800017408, .complex .f64 13830554455654793216 0, .complex .f64 0 13830554455654793216] rfl rfl (Box.made hb5.symm) rfl (by kernel_rfl) (four_cells _ _ _ _ rfl rfl rfl rfl) ?_; intro W2 p2 o2)
      | (refine wpList_allocTo rfl (some 5) rfl (.pointer (some ⟨b5, 0, none⟩)) (.cells #[.complex .f64 0 0, .complex .f64 0 0, .complex .f64 0 0, .complex .f64 0 0] 177) (by rw [← hb5]; kernel_rfl) ?_))
  have hc2 : Below w_1.heap.size w_1 W2 := ((Below.refl _ _).alloc (Nat.le_refl _) _).trans (o2.to_below (by omega) (by simp))
  have HP := hide p2
  clear p2 o2 hb5
  replace HR := hide (HR.out.below hc2)
  replace HB := hide (HB.out.trans (hc2.mono HB.out.size))
  clear hc2
  obtain ⟨b6, hb6⟩ : ∃ g, W2.heap.size = g := ⟨_, rfl⟩
  go_upto_region 3 with (refine wpList_allocTo rfl (some 6) rfl (.pointer (some ⟨W2.heap.size, 0, none⟩)) (.cells #[.complex .f64 0 0, .complex .f64 0 0] 178) (by kernel_rfl) ?_)
  obtain ⟨W3, hW3⟩ : ∃ q : World, q = W2.alloc (.cells #[.complex .f64 0 0, .complex .f64 0 0] 178) := ⟨_, rfl⟩
  try rw [← hW3]
  have HS := hide (show Box W3 b6 178 #[.complex .f64 0 0, .complex .f64 0 0] by rw [hW3]; exact Box.made hb6.symm)
  have hc3 : Below W2.heap.size W2 W3 := by rw [hW3]; exact (Below.refl _ _).alloc (Nat.le_refl _) _
  have ne_R6 : w.heap.size ≠ b6 := by rw [← hb6]; exact Nat.ne_of_lt HR.out.lt
  have ne_P6 : b5 ≠ b6 := by rw [← hb6]; exact Nat.ne_of_lt HP.out.lt
  have le_6 : w.heap.size ≤ b6 := by rw [← hb6]; exact HB.out.size
  replace HR := hide (HR.out.below hc3)
  replace HP := hide (HP.out.below hc3)
  replace HB := hide (HB.out.trans (hc3.mono HB.out.size))
  clear hc3
  try simp only [hb6]
  clear hW3 hb6
  go_wp2_with fail
  go_loopw [14] (fun i wr => ∃ k p0 q0 p1 q1 : Nat, k ≤ n ∧ i = .int .i64 (k : Int) ∧ Hid (Box wr w.heap.size 109 #[.int .i64 0, .int .i64 0, .int .i64 0, .int .i64 0]) ∧ Hid (Box wr b5 177 #[.complex .f64 4607182418800017408 0, .complex .f64 0 4607182418800017408, .complex .f64 13830554455654793216 0, .complex .f64 0 13830554455654793216]) ∧ Hid (Box wr b6 178 #[.complex .f64 p0 q0, .complex .f64 p1 q1]) ∧ Hid (Whole p0 (T k).a) ∧ Hid (Whole q0 (T k).c) ∧ Hid (Whole p1 (T k).b) ∧ Hid (Whole q1 (T k).d) ∧ Hid (Below w.heap.size w wr)) (fun i _ => n - (Go.RowKit.intOf i).toNat)
  case atStart => exact ⟨0, 0, 0, 0, 0, Nat.zero_le _, rfl, HR, HP, HS, hide (by rw [HT0.out]; exact whole_zero), hide (by rw [HT0.out]; exact whole_zero), hide (by rw [HT0.out]; exact whole_zero), hide (by rw [HT0.out]; exact whole_zero), HB⟩
  case round =>
    clear HR HP HS HB
    obtain ⟨k, p0, q0, p1, q1, hk, rfl, HR, HP, HS, HW0, HW1, HW2, HW3, HB⟩ := hrel
    obtain ⟨wA, rfl⟩ : ∃ x : World, x = wr := ⟨_, rfl⟩
    by_cases hlt : k < n
    · have hltz : (k : Int) < (n : Int) := by omega
      obtain ⟨b, o, rfl, -, hbl, hcell⟩ := (HI.out.below HB.out) k hlt
      obtain ⟨b7, o7, hb7, hbl7, hc7⟩ := HC.out k hlt
      subst hb7
      have hfk := HF.out k hlt
      by_cases hoff : F k = -1
      · have HTK := hide (HT1.out k hoff)
        rw [hoff] at hcell
        have t0 : ((-1 : Int) != -1) = false := rfl
        clear hoff hfk hbl7 hc7
        go_wp2_with fail
        go_roundw
        case rel => exact ⟨k + 1, p0, q0, p1, q1, by omega, by go_num, HR, HP, HS, hide (by rw [HTK.out]; exact HW0.out), hide (by rw [HTK.out]; exact HW1.out), hide (by rw [HTK.out]; exact HW2.out), hide (by rw [HTK.out]; exact HW3.out), HB⟩
        case measure => simp [Go.RowKit.intOf]; omega
      obtain ⟨q, hq⟩ : ∃ q : Nat, (F k).toNat / 2 = q := ⟨_, rfl⟩
      have hq4 : q < 4 := by omega
      have hq4z : (q : Int) < 4 := by omega
      have qw : IntKind.i64.wrap (q : Int) = (q : Int) := IntWalk.i64_in _ (by omega)
      obtain ⟨hu, hv⟩ := HU.out k hlt
      have hxk := HX.out k hlt
      obtain ⟨x, hx⟩ : ∃ z, X k = z := ⟨_, rfl⟩
      obtain ⟨mu, mv, hm, hmu, hmv⟩ := power_times hq4 hu hv (hxk.more (by decide))
      have hbk := HTW.out k (by omega)
      have hit := itm_within (q := q) hq4 (hxk.more (N := 1000000) (by decide))
      have tne : (F k != -1) = true := by simpa using hoff
      have HMUL := hide (fun W => run_complex_mul (P := Try.prog) W 118 _ _ _ _ _ _ hm)
      obtain ⟨f, hf⟩ : ∃ z, F k = z := ⟨_, rfl⟩
      have HPC := hide (fun W (h : Box W b5 177 #[.complex .f64 4607182418800017408 0, .complex .f64 0 4607182418800017408, .complex .f64 13830554455654793216 0, .complex .f64 0 13830554455654793216]) => (h.at_ q).trans (power_cell q hq4))
      obtain ⟨cb, hcb⟩ : ∃ z, cosB q = z := ⟨_, rfl⟩
      obtain ⟨sb, hsb⟩ : ∃ z, sinB q = z := ⟨_, rfl⟩
      simp only [hcb, hsb] at HMUL HPC
      have HU7 := hide hc7
      obtain ⟨u, hu7⟩ : ∃ z, U k = z := ⟨_, rfl⟩
      obtain ⟨v, hv7⟩ : ∃ z, V k = z := ⟨_, rfl⟩
      simp only [hu7, hv7] at HMUL HU7 hc7
      have hd2 : f.tdiv 2 = (q : Int) := by rw [← hf, Int.tdiv_eq_ediv_of_nonneg (by omega)]; omega
      obtain hr | hr : F k = ((2 * q : Nat) : Int) ∨ F k = ((2 * q + 1 : Nat) : Int) := by omega
      · have HTK := hide (HTE.out k q hq4 hr)
        have hd1 : f.tmod 2 = 0 := by rw [← hf, hr, Int.tmod_eq_emod_of_nonneg (by omega)]; omega
        obtain ⟨su, sv, hs2, hsu, hsv⟩ := whole_csum HW0.out HW1.out hmu hmv (abs_lt (M := 5000000000) (by have := hbk.a; have := hit.re; omega) (by decide)) (abs_lt (M := 5000000000) (by have := hbk.c; have := hit.im; omega) (by decide))
        have HSU := hide (show Whole su (T (k + 1)).a by rw [HTK.out]; exact hsu)
        have HSV := hide (show Whole sv (T (k + 1)).c by rw [HTK.out]; exact hsv)
        have HO1 := hide (show Whole p1 (T (k + 1)).b by rw [HTK.out]; exact HW2.out)
        have HO2 := hide (show Whole q1 (T (k + 1)).d by rw [HTK.out]; exact HW3.out)
        have HADD := hide (fun W => run_complex_sum (P := Try.prog) W .add (.inl rfl) 118 .f64 _ _ _ _ _ _ hs2)
        rw [hf] at hcell tne hfk
        clear hs2 hsu hsv hmu hmv hbk hit hu hv hm hxk hr hq hoff hx HTK hcb hsb hf hu7 hv7 HW0 HW1 HW2 HW3
        go_upto_region 7 with fail
        refine wp_region_held_drew (S := fun w' => w'.cell? ⟨b5, q, none⟩ = some (.complex .f64 cb sb) ∧ w'.cell? ⟨b7, o7 + k, none⟩ = some (.complex .f64 u v)) (by kernel_rfl) ⟨HPC.out _ HP.out, (HB.out.cell (p := ⟨b7, o7 + k, none⟩) hbl7).trans HU7.out⟩ (fun hHeld => ?_)
        obtain ⟨w_2, hw_2⟩ : ∃ q : World, q = wA.drew := ⟨_, rfl⟩
        rw [← hw_2] at hHeld ⊢
        have hc_2 : Below wA.heap.size wA w_2 := by rw [hw_2]; exact (Below.refl _ _).drew
        clear hw_2
        replace HR := hide (HR.out.below hc_2)
        replace HP := hide (HP.out.below hc_2)
        replace HS := hide (HS.out.below hc_2)
        replace HB := hide (HB.out.trans (hc_2.mono HB.out.size))
        clear hc_2
        refine wpAnyH_take (i := 0) (oi := ⟨some 21, _, _, _, _, _⟩) (v := ?_) rfl (by kernel_rfl) (by kernel_rfl) (by kernel_rfl) (fun _ _ _ h => h) (Or.inl ⟨by rfl, ?_⟩) (by assumption) ?_
        rotate_left
        · (intro w' hSw; (try dsimp only at hSw); go_simp <;> (with_reducible rfl))
        try simp only [Act.put, List.setIfInBounds_toArray, List.set_cons_zero, List.set_cons_succ]
        refine wpAnyH_take (i := 1) (oi := ⟨some 22, _, _, _, _, _⟩) (v := ?_) rfl (by kernel_rfl) (by kernel_rfl) (by kernel_rfl) (fun _ _ _ h => h) (Or.inl ⟨by rfl, ?_⟩) (by assumption) ?_
        rotate_left
        · (intro w' hSw; (try dsimp only at hSw); go_simp <;> (with_reducible rfl))
        try simp only [Act.put, List.setIfInBounds_toArray, List.set_cons_zero, List.set_cons_succ]
        refine wpAnyH_take (i := 2) (oi := ⟨some 23, _, _, _, _, _⟩) (v := ?_) rfl (by kernel_rfl) (by kernel_rfl) (by kernel_rfl) (fun _ _ _ h => h) (Or.inl ⟨by rfl, ?_⟩) (by assumption) ?_
        rotate_left
        · (intro w' hSw; (try dsimp only at hSw); go_simp <;> (with_reducible rfl))
        try simp only [Act.put, List.setIfInBounds_toArray, List.set_cons_zero, List.set_cons_succ]
        refine wpAnyH_take (i := 4) (oi := ⟨some 25, _, _, _, _, _⟩) (v := ?_) rfl (by kernel_rfl) (by kernel_rfl) (by kernel_rfl) (fun _ _ _ h => h) (Or.inl ⟨by rfl, ?_⟩) (by assumption) ?_
        rotate_left
        · (intro w' hSw; (try dsimp only at hSw); go_simp <;> (with_reducible rfl))
        try simp only [Act.put, List.setIfInBounds_toArray, List.set_cons_zero, List.set_cons_succ]
        refine wpAnyH_take (i := 5) (oi := ⟨some 26, _, _, _, _, _⟩) (v := ?_) rfl (by kernel_rfl) (by kernel_rfl) (by kernel_rfl) (fun _ _ _ h => h) (Or.inl ⟨by rfl, ?_⟩) (by assumption) ?_
        rotate_left
        · (intro w' hSw; (try dsimp only at hSw); go_simp <;> (with_reducible rfl))
        try simp only [Act.put, List.setIfInBounds_toArray, List.set_cons_zero, List.set_cons_succ]
        refine wpAnyH_take (i := 6) (oi := ⟨some 27, _, _, _, _, _⟩) (v := ?_) rfl (by kernel_rfl) (by kernel_rfl) (by kernel_rfl) (fun _ _ _ h => h) (Or.inl ⟨by rfl, ?_⟩) (by assumption) ?_
        rotate_left
        · (intro w' hSw; (try dsimp only at hSw); go_simp <;> (with_reducible rfl))
        try simp only [Act.put, List.setIfInBounds_toArray, List.set_cons_zero, List.set_cons_succ]
        refine wpAnyH_take (i := 7) (oi := ⟨some 28, _, _, _, _, _⟩) (v := ?_) rfl (by kernel_rfl) (by kernel_rfl) (by kernel_rfl) (fun _ _ _ h => h) (Or.inl ⟨by rfl, ?_⟩) (by assumption) ?_
        rotate_left
        · (intro w' hSw; (try dsimp only at hSw); go_simp <;> (with_reducible rfl))
        try simp only [Act.put, List.setIfInBounds_toArray, List.set_cons_zero, List.set_cons_succ]
        refine wpAnyH_take (i := 8) (oi := ⟨some 29, _, _, _, _, _⟩) (v := ?_) rfl (by kernel_rfl) (by kernel_rfl) (by kernel_rfl) (fun _ _ _ h => h) (Or.inl ⟨by rfl, ?_⟩) (by assumption) ?_
        rotate_left
        · (intro w' hSw; (try dsimp only at hSw); go_simp <;> (with_reducible rfl))
        try simp only [Act.put, List.setIfInBounds_toArray, List.set_cons_zero, List.set_cons_succ]
        refine wpAnyH_take (i := 9) (oi := ⟨some 30, _, _, _, _, _⟩) (v := ?_) rfl (by kernel_rfl) (by kernel_rfl) (by kernel_rfl) (fun _ _ _ h => h) (Or.inl ⟨by rfl, ?_⟩) (by assumption) ?_
        rotate_left
        · (intro w' hSw; (try dsimp only at hSw); go_simp <;> (with_reducible rfl))
        try simp only [Act.put, List.setIfInBounds_toArray, List.set_cons_zero, List.set_cons_succ]
        refine wpAnyH_take (i := 10) (oi := ⟨some 31, _, _, _, _, _⟩) (v := ?_) rfl (by kernel_rfl) (by kernel_rfl) (by kernel_rfl) (fun _ _ _ h => h) (Or.inl ⟨by rfl, ?_⟩) (by assumption) ?_
        rotate_left
        · (intro w' hSw; (try dsimp only at hSw); go_simp <;> (with_reducible rfl))
        try simp only [Act.put, List.setIfInBounds_toArray, List.set_cons_zero, List.set_cons_succ]
        refine wpAnyH_take (i := 11) (oi := ⟨some 32, _, _, _, _, _⟩) (v := ?_) rfl (by kernel_rfl) (by kernel_rfl) (by kernel_rfl) (fun _ _ _ h => h) (Or.inl ⟨by rfl, ?_⟩) (by assumption) ?_
        rotate_left
        · (intro w' hSw; (try dsimp only at hSw); go_simp <;> (with_reducible rfl))
        try simp only [Act.put, List.setIfInBounds_toArray, List.set_cons_zero, List.set_cons_succ]
        refine wpAnyH_take (i := 12) (oi := ⟨some 33, _, _, _, _, _⟩) (v := (.complex .f64 mu mv)) rfl (by kernel_rfl) (by kernel_rfl) (by kernel_rfl) (fun _ _ _ h => h) (Or.inl ⟨by rfl, fun w' hSw => by go_simp; simp [HMUL.out]⟩) (by assumption) ?_
        try simp only [Act.put, List.setIfInBounds_toArray, List.set_cons_zero, List.set_cons_succ]
        refine wpAnyH_ready (rs := [3]) (by kernel_rfl) (by simp) ?_
        refine AllReadyH.cons (o := ⟨some 24, _, _, _, _, _⟩) rfl (fun K' hK => ?_) AllReadyH.nil
        obtain ⟨x0, x1, -, -, hlx⟩ := HS.out.c2
        go_simp
        clear x0 x1 hlx
        refine hK.out _ _ ⟨HPC.out _ HP.out, (HB.out.cell (p := ⟨b7, o7 + k, none⟩) hbl7).trans HU7.out⟩ (fun hHeld => ?_)
        clear hK K'
        try simp only [Act.put, List.setIfInBounds_toArray, List.set_cons_zero, List.set_cons_succ]
        refine wpAnyH_take (i := 13) (oi := ⟨some 34, _, _, _, _, _⟩) (v := (.complex .f64 su sv)) rfl (by kernel_rfl) (by kernel_rfl) (by kernel_rfl) (fun _ _ _ h => h) (Or.inl ⟨by rfl, fun w' hSw => by go_simp; simp [HADD.out]⟩) (by assumption) ?_
        try simp only [Act.put, List.setIfInBounds_toArray, List.set_cons_zero, List.set_cons_succ]
        refine wpAnyH_ready (rs := [14]) (by kernel_rfl) (by simp) ?_
        refine AllReadyH.cons (o := ⟨some 35, _, _, _, _, _⟩) rfl (fun K' hK => ?_) AllReadyH.nil
        go_simp
        refine hK.out _ _ ⟨HPC.out _ HP.out, (HB.out.cell (p := ⟨b7, o7 + k, none⟩) hbl7).trans HU7.out⟩ (fun hHeld => ?_)
        clear hK K'
        try simp only [Act.put, List.setIfInBounds_toArray, List.set_cons_zero, List.set_cons_succ]
        refine wpAnyH_ready (rs := [15]) (by kernel_rfl) (by simp) ?_
        refine AllReadyH.cons (o := ⟨none, _, _, _, _, _⟩) rfl (fun K' hK => ?_) AllReadyH.nil
        obtain ⟨x0, x1, f0, f1, hlx⟩ := HS.out.c2
        have hst : Sem.run Try.prog (Go.store ⟨b6, 0, none⟩ (.complex .f64 su sv)) w_2 = .ok () (w_2.setCell ⟨b6, 0, none⟩ (.complex .f64 su sv)) := by rw [run_store _ _ _ _ _ rfl]; simp [x0, f0]
        go_simp
        clear x0 x1 f0 f1 hlx hst
        replace HR := hide (HR.out.other (p := ⟨b6, 0, none⟩) ne_R6 (.complex .f64 su sv))
        replace HP := hide (HP.out.other (p := ⟨b6, 0, none⟩) ne_P6 (.complex .f64 su sv))
        replace HS := hide (HS.out.first2 (.complex .f64 su sv))
        replace HB := hide (HB.out.setCell (p := ⟨b6, 0, none⟩) le_6 (.complex .f64 su sv))
        obtain ⟨w_3, hw_3⟩ : ∃ q : World, w_2.setCell ⟨b6, 0, none⟩ (.complex .f64 su sv) = q := ⟨_, rfl⟩
        rw [hw_3] at HR HP HS HB ⊢
        clear hw_3
        refine hK.out _ _ ⟨HPC.out _ HP.out, (HB.out.cell (p := ⟨b7, o7 + k, none⟩) hbl7).trans HU7.out⟩ (fun hHeld => ?_)
        clear hK K'
        try simp only [Act.put, List.setIfInBounds_toArray, List.set_cons_zero, List.set_cons_succ]
        refine wpAnyH_done (by kernel_rfl) ?_ _
        go_wp2_with fail
        go_roundw
        case rel => exact ⟨k + 1, su, sv, p1, q1, by omega, by go_num, HR, HP, HS, HSU, HSV, HO1, HO2, HB⟩
        case measure => simp [Go.RowKit.intOf]; omega
      · have HTK := hide (HTO.out k q hq4 hr)
        have hd1 : f.tmod 2 = 1 := by rw [← hf, hr, Int.tmod_eq_emod_of_nonneg (by omega)]; omega
        obtain ⟨su, sv, hs2, hsu, hsv⟩ := whole_csum HW2.out HW3.out hmu hmv (abs_lt (M := 5000000000) (by have := hbk.b; have := hit.re; omega) (by decide)) (abs_lt (M := 5000000000) (by have := hbk.d; have := hit.im; omega) (by decide))
        have HSU := hide (show Whole su (T (k + 1)).b by rw [HTK.out]; exact hsu)
        have HSV := hide (show Whole sv (T (k + 1)).d by rw [HTK.out]; exact hsv)
        have HO1 := hide (show Whole p0 (T (k + 1)).a by rw [HTK.out]; exact HW0.out)
        have HO2 := hide (show Whole q0 (T (k + 1)).c by rw [HTK.out]; exact HW1.out)
        have HADD := hide (fun W => run_complex_sum (P := Try.prog) W .add (.inl rfl) 118 .f64 _ _ _ _ _ _ hs2)
        rw [hf] at hcell tne hfk
        clear hs2 hsu hsv hmu hmv hbk hit hu hv hm hxk hr hq hoff hx HTK hcb hsb hf hu7 hv7 HW0 HW1 HW2 HW3
        go_upto_region 7 with fail
        refine wp_region_held_drew (S := fun w' => w'.cell? ⟨b5, q, none⟩ = some (.complex .f64 cb sb) ∧ w'.cell? ⟨b7, o7 + k, none⟩ = some (.complex .f64 u v)) (by kernel_rfl) ⟨HPC.out _ HP.out, (HB.out.cell (p := ⟨b7, o7 + k, none⟩) hbl7).trans HU7.out⟩ (fun hHeld => ?_)
        obtain ⟨w_4, hw_4⟩ : ∃ q : World, q = wA.drew := ⟨_, rfl⟩
        rw [← hw_4] at hHeld ⊢
        have hc_4 : Below wA.heap.size wA w_4 := by rw [hw_4]; exact (Below.refl _ _).drew
        clear hw_4
        replace HR := hide (HR.out.below hc_4)
        replace HP := hide (HP.out.below hc_4)
        replace HS := hide (HS.out.below hc_4)
        replace HB := hide (HB.out.trans (hc_4.mono HB.out.size))
        clear hc_4
        refine wpAnyH_take (i := 0) (oi := ⟨some 21, _, _, _, _, _⟩) (v := ?_) rfl (by kernel_rfl) (by kernel_rfl) (by kernel_rfl) (fun _ _ _ h => h) (Or.inl ⟨by rfl, ?_⟩) (by assumption) ?_
        rotate_left
        · (intro w' hSw; (try dsimp only at hSw); go_simp <;> (with_reducible rfl))
        try simp only [Act.put, List.setIfInBounds_toArray, List.set_cons_zero, List.set_cons_succ]
        refine wpAnyH_take (i := 1) (oi := ⟨some 22, _, _, _, _, _⟩) (v := ?_) rfl (by kernel_rfl) (by kernel_rfl) (by kernel_rfl) (fun _ _ _ h => h) (Or.inl ⟨by rfl, ?_⟩) (by assumption) ?_
        rotate_left
        · (intro w' hSw; (try dsimp only at hSw); go_simp <;> (with_reducible rfl))
        try simp only [Act.put, List.setIfInBounds_toArray, List.set_cons_zero, List.set_cons_succ]
        refine wpAnyH_take (i := 2) (oi := ⟨some 23, _, _, _, _, _⟩) (v := ?_) rfl (by kernel_rfl) (by kernel_rfl) (by kernel_rfl) (fun _ _ _ h => h) (Or.inl ⟨by rfl, ?_⟩) (by assumption) ?_
        rotate_left
        · (intro w' hSw; (try dsimp only at hSw); go_simp <;> (with_reducible rfl))
        try simp only [Act.put, List.setIfInBounds_toArray, List.set_cons_zero, List.set_cons_succ]
        refine wpAnyH_take (i := 4) (oi := ⟨some 25, _, _, _, _, _⟩) (v := ?_) rfl (by kernel_rfl) (by kernel_rfl) (by kernel_rfl) (fun _ _ _ h => h) (Or.inl ⟨by rfl, ?_⟩) (by assumption) ?_
        rotate_left
        · (intro w' hSw; (try dsimp only at hSw); go_simp <;> (with_reducible rfl))
        try simp only [Act.put, List.setIfInBounds_toArray, List.set_cons_zero, List.set_cons_succ]
        refine wpAnyH_take (i := 5) (oi := ⟨some 26, _, _, _, _, _⟩) (v := ?_) rfl (by kernel_rfl) (by kernel_rfl) (by kernel_rfl) (fun _ _ _ h => h) (Or.inl ⟨by rfl, ?_⟩) (by assumption) ?_
        rotate_left
        · (intro w' hSw; (try dsimp only at hSw); go_simp <;> (with_reducible rfl))
        try simp only [Act.put, List.setIfInBounds_toArray, List.set_cons_zero, List.set_cons_succ]
        refine wpAnyH_take (i := 6) (oi := ⟨some 27, _, _, _, _, _⟩) (v := ?_) rfl (by kernel_rfl) (by kernel_rfl) (by kernel_rfl) (fun _ _ _ h => h) (Or.inl ⟨by rfl, ?_⟩) (by assumption) ?_
        rotate_left
        · (intro w' hSw; (try dsimp only at hSw); go_simp <;> (with_reducible rfl))
        try simp only [Act.put, List.setIfInBounds_toArray, List.set_cons_zero, List.set_cons_succ]
        refine wpAnyH_take (i := 7) (oi := ⟨some 28, _, _, _, _, _⟩) (v := ?_) rfl (by kernel_rfl) (by kernel_rfl) (by kernel_rfl) (fun _ _ _ h => h) (Or.inl ⟨by rfl, ?_⟩) (by assumption) ?_
        rotate_left
        · (intro w' hSw; (try dsimp only at hSw); go_simp <;> (with_reducible rfl))
        try simp only [Act.put, List.setIfInBounds_toArray, List.set_cons_zero, List.set_cons_succ]
        refine wpAnyH_take (i := 8) (oi := ⟨some 29, _, _, _, _, _⟩) (v := ?_) rfl (by kernel_rfl) (by kernel_rfl) (by kernel_rfl) (fun _ _ _ h => h) (Or.inl ⟨by rfl, ?_⟩) (by assumption) ?_
        rotate_left
        · (intro w' hSw; (try dsimp only at hSw); go_simp <;> (with_reducible rfl))
        try simp only [Act.put, List.setIfInBounds_toArray, List.set_cons_zero, List.set_cons_succ]
        refine wpAnyH_take (i := 9) (oi := ⟨some 30, _, _, _, _, _⟩) (v := ?_) rfl (by kernel_rfl) (by kernel_rfl) (by kernel_rfl) (fun _ _ _ h => h) (Or.inl ⟨by rfl, ?_⟩) (by assumption) ?_
        rotate_left
        · (intro w' hSw; (try dsimp only at hSw); go_simp <;> (with_reducible rfl))
        try simp only [Act.put, List.setIfInBounds_toArray, List.set_cons_zero, List.set_cons_succ]
        refine wpAnyH_take (i := 10) (oi := ⟨some 31, _, _, _, _, _⟩) (v := ?_) rfl (by kernel_rfl) (by kernel_rfl) (by kernel_rfl) (fun _ _ _ h => h) (Or.inl ⟨by rfl, ?_⟩) (by assumption) ?_
        rotate_left
        · (intro w' hSw; (try dsimp only at hSw); go_simp <;> (with_reducible rfl))
        try simp only [Act.put, List.setIfInBounds_toArray, List.set_cons_zero, List.set_cons_succ]
        refine wpAnyH_take (i := 11) (oi := ⟨some 32, _, _, _, _, _⟩) (v := ?_) rfl (by kernel_rfl) (by kernel_rfl) (by kernel_rfl) (fun _ _ _ h => h) (Or.inl ⟨by rfl, ?_⟩) (by assumption) ?_
        rotate_left
        · (intro w' hSw; (try dsimp only at hSw); go_simp <;> (with_reducible rfl))
        try simp only [Act.put, List.setIfInBounds_toArray, List.set_cons_zero, List.set_cons_succ]
        refine wpAnyH_take (i := 12) (oi := ⟨some 33, _, _, _, _, _⟩) (v := (.complex .f64 mu mv)) rfl (by kernel_rfl) (by kernel_rfl) (by kernel_rfl) (fun _ _ _ h => h) (Or.inl ⟨by rfl, fun w' hSw => by go_simp; simp [HMUL.out]⟩) (by assumption) ?_
        try simp only [Act.put, List.setIfInBounds_toArray, List.set_cons_zero, List.set_cons_succ]
        refine wpAnyH_ready (rs := [3]) (by kernel_rfl) (by simp) ?_
        refine AllReadyH.cons (o := ⟨some 24, _, _, _, _, _⟩) rfl (fun K' hK => ?_) AllReadyH.nil
        obtain ⟨x0, x1, -, -, hlx⟩ := HS.out.c2
        go_simp
        clear x0 x1 hlx
        refine hK.out _ _ ⟨HPC.out _ HP.out, (HB.out.cell (p := ⟨b7, o7 + k, none⟩) hbl7).trans HU7.out⟩ (fun hHeld => ?_)
        clear hK K'
        try simp only [Act.put, List.setIfInBounds_toArray, List.set_cons_zero, List.set_cons_succ]
        refine wpAnyH_take (i := 13) (oi := ⟨some 34, _, _, _, _, _⟩) (v := (.complex .f64 su sv)) rfl (by kernel_rfl) (by kernel_rfl) (by kernel_rfl) (fun _ _ _ h => h) (Or.inl ⟨by rfl, fun w' hSw => by go_simp; simp [HADD.out]⟩) (by assumption) ?_
        try simp only [Act.put, List.setIfInBounds_toArray, List.set_cons_zero, List.set_cons_succ]
        refine wpAnyH_ready (rs := [14]) (by kernel_rfl) (by simp) ?_
        refine AllReadyH.cons (o := ⟨some 35, _, _, _, _, _⟩) rfl (fun K' hK => ?_) AllReadyH.nil
        go_simp
        refine hK.out _ _ ⟨HPC.out _ HP.out, (HB.out.cell (p := ⟨b7, o7 + k, none⟩) hbl7).trans HU7.out⟩ (fun hHeld => ?_)
        clear hK K'
        try simp only [Act.put, List.setIfInBounds_toArray, List.set_cons_zero, List.set_cons_succ]
        refine wpAnyH_ready (rs := [15]) (by kernel_rfl) (by simp) ?_
        refine AllReadyH.cons (o := ⟨none, _, _, _, _, _⟩) rfl (fun K' hK => ?_) AllReadyH.nil
        obtain ⟨x0, x1, f0, f1, hlx⟩ := HS.out.c2
        have hst : Sem.run Try.prog (Go.store ⟨b6, 1, none⟩ (.complex .f64 su sv)) w_4 = .ok () (w_4.setCell ⟨b6, 1, none⟩ (.complex .f64 su sv)) := by rw [run_store _ _ _ _ _ rfl]; simp [x1, f1]
        go_simp
        clear x0 x1 f0 f1 hlx hst
        replace HR := hide (HR.out.other (p := ⟨b6, 1, none⟩) ne_R6 (.complex .f64 su sv))
        replace HP := hide (HP.out.other (p := ⟨b6, 1, none⟩) ne_P6 (.complex .f64 su sv))
        replace HS := hide (HS.out.second2 (.complex .f64 su sv))
        replace HB := hide (HB.out.setCell (p := ⟨b6, 1, none⟩) le_6 (.complex .f64 su sv))
        obtain ⟨w_5, hw_5⟩ : ∃ q : World, w_4.setCell ⟨b6, 1, none⟩ (.complex .f64 su sv) = q := ⟨_, rfl⟩
        rw [hw_5] at HR HP HS HB ⊢
        clear hw_5
        refine hK.out _ _ ⟨HPC.out _ HP.out, (HB.out.cell (p := ⟨b7, o7 + k, none⟩) hbl7).trans HU7.out⟩ (fun hHeld => ?_)
        clear hK K'
        try simp only [Act.put, List.setIfInBounds_toArray, List.set_cons_zero, List.set_cons_succ]
        refine wpAnyH_done (by kernel_rfl) ?_ _
        go_wp2_with fail
        go_roundw
        case rel => exact ⟨k + 1, p0, q0, su, sv, by omega, by go_num, HR, HP, HS, HO1, HO2, HSU, HSV, HB⟩
        case measure => simp [Go.RowKit.intOf]; omega
    · obtain rfl : k = n := by omega
      have hbk := HTW.out k (Nat.le_refl _)
      obtain ⟨S, hS⟩ : ∃ z, T k = z := ⟨_, rfl⟩
      simp only [hS] at HW0 HW1 HW2 HW3 hbk
      have HEQ := hide hS
      have HG0 := hide (fun W => asGauss_any p0 q0 S.a S.c W HW0.out HW1.out (abs_lt hbk.a (by decide)) (abs_lt hbk.c (by decide)))
      have HG1 := hide (fun W => asGauss_any p1 q1 S.b S.d W HW2.out HW3.out (abs_lt hbk.b (by decide)) (abs_lt hbk.d (by decide)))
      clear hbk hS HW0 HW1 HW2 HW3 HP
      obtain ⟨s0, hs0⟩ : ∃ z, S.a = z := ⟨_, rfl⟩
      obtain ⟨s1, hs1⟩ : ∃ z, S.b = z := ⟨_, rfl⟩
      obtain ⟨s2, hs2⟩ : ∃ z, S.c = z := ⟨_, rfl⟩
      obtain ⟨s3, hs3⟩ : ∃ z, S.d = z := ⟨_, rfl⟩
      simp only [hs0, hs1, hs2, hs3] at HG0 HG1
      have HE4 := hide (show (T k).a = s0 ∧ (T k).b = s1 ∧ (T k).c = s2 ∧ (T k).d = s3 by rw [HEQ.out]; exact ⟨hs0, hs1, hs2, hs3⟩)
      clear hs0 hs1 hs2 hs3 HEQ
      go_upto_region 9 with fail
      go_cut [9, 10] (fun p q wx => ∃ ga gb, p = .pointer (some ⟨ga, 0, none⟩) ∧ q = .pointer (some ⟨gb, 0, none⟩) ∧ Hid (Box wx ga 53 #[.int .i64 s0, .int .i64 s2]) ∧ Hid (Box wx gb 53 #[.int .i64 s1, .int .i64 s3]) ∧ Hid (Box wx w.heap.size 109 #[.int .i64 0, .int .i64 0, .int .i64 0, .int .i64 0]) ∧ Hid (Below w.heap.size w wx))
      case first =>
        refine wp_region_held_drew (S := fun w' => w'.cell? ⟨b6, 0, none⟩ = some (.complex .f64 p0 q0) ∧ w'.cell? ⟨b6, 1, none⟩ = some (.complex .f64 p1 q1)) (by kernel_rfl) ⟨HS.out.c2.1, HS.out.c2.2.1⟩ (fun hHeld => ?_)
        obtain ⟨w_6, hw_6⟩ : ∃ q : World, q = wA.drew := ⟨_, rfl⟩
        rw [← hw_6] at hHeld ⊢
        have hc_6 : Below wA.heap.size wA w_6 := by rw [hw_6]; exact (Below.refl _ _).drew
        clear hw_6
        replace HR := hide (HR.out.below hc_6)
        replace HS := hide (HS.out.below hc_6)
        replace HB := hide (HB.out.trans (hc_6.mono HB.out.size))
        clear hc_6
        refine wpAnyH_take (i := 0) (oi := ⟨some 37, _, _, _, _, _⟩) (v := ?_) rfl (by kernel_rfl) (by kernel_rfl) (by kernel_rfl) (fun _ _ _ h => h) (Or.inl ⟨by rfl, ?_⟩) (by assumption) ?_
        rotate_left
        · (intro w' hSw; (try dsimp only at hSw); go_simp <;> (with_reducible rfl))
        try simp only [Act.put, List.setIfInBounds_toArray, List.set_cons_zero, List.set_cons_succ]
        refine wpAnyH_take (i := 1) (oi := ⟨some 38, _, _, _, _, _⟩) (v := ?_) rfl (by kernel_rfl) (by kernel_rfl) (by kernel_rfl) (fun _ _ _ h => h) (Or.inl ⟨by rfl, ?_⟩) (by assumption) ?_
        rotate_left
        · (intro w' hSw; (try dsimp only at hSw); go_simp <;> (with_reducible rfl))
        try simp only [Act.put, List.setIfInBounds_toArray, List.set_cons_zero, List.set_cons_succ]
        refine wpAnyH_take (i := 3) (oi := ⟨some 40, _, _, _, _, _⟩) (v := ?_) rfl (by kernel_rfl) (by kernel_rfl) (by kernel_rfl) (fun _ _ _ h => h) (Or.inl ⟨by rfl, ?_⟩) (by assumption) ?_
        rotate_left
        · (intro w' hSw; (try dsimp only at hSw); go_simp <;> (with_reducible rfl))
        try simp only [Act.put, List.setIfInBounds_toArray, List.set_cons_zero, List.set_cons_succ]
        refine wpAnyH_take (i := 4) (oi := ⟨some 41, _, _, _, _, _⟩) (v := ?_) rfl (by kernel_rfl) (by kernel_rfl) (by kernel_rfl) (fun _ _ _ h => h) (Or.inl ⟨by rfl, ?_⟩) (by assumption) ?_
        rotate_left
        · (intro w' hSw; (try dsimp only at hSw); go_simp <;> (with_reducible rfl))
        try simp only [Act.put, List.setIfInBounds_toArray, List.set_cons_zero, List.set_cons_succ]
        refine wpAnyH_ready (rs := [2, 6, 7]) (by kernel_rfl) (by simp) ?_
        refine AllReadyH.cons (o := ⟨some 39, _, _, _, _, _⟩) rfl (fun K' hK => ?_) (AllReadyH.cons (o := ⟨some 9, _, _, _, _, _⟩) rfl (fun K' hK => ?_) (AllReadyH.cons (o := ⟨some 10, _, _, _, _, _⟩) rfl (fun K' hK => ?_) AllReadyH.nil))
        · skip
          go_simp
          go_at_call 81
          refine (HG0.out _).mono ?_
          rintro e_ w_7 ⟨rfl, hb_7⟩
          replace HR := hide (HR.out.below hb_7)
          replace HS := hide (HS.out.below hb_7)
          replace HB := hide (HB.out.trans (hb_7.mono HB.out.size))
          clear hb_7
          go_wp2_with fail
          refine hK.out _ _ ⟨HS.out.c2.1, HS.out.c2.2.1⟩ (fun hHeld => ?_)
          clear hK K'
          try simp only [Act.put, List.setIfInBounds_toArray, List.set_cons_zero, List.set_cons_succ]
          refine wpAnyH_ready (rs := [5, 6, 7]) (by kernel_rfl) (by simp) ?_
          refine AllReadyH.cons (o := ⟨some 42, _, _, _, _, _⟩) rfl (fun K' hK => ?_) (AllReadyH.cons (o := ⟨some 9, _, _, _, _, _⟩) rfl (fun K' hK => ?_) (AllReadyH.cons (o := ⟨some 10, _, _, _, _, _⟩) rfl (fun K' hK => ?_) AllReadyH.nil))
          · skip
            go_simp
            go_at_call 81
            refine (HG1.out _).mono ?_
            rintro e_ w_8 ⟨rfl, hb_8⟩
            replace HR := hide (HR.out.below hb_8)
            replace HS := hide (HS.out.below hb_8)
            replace HB := hide (HB.out.trans (hb_8.mono HB.out.size))
            clear hb_8
            go_wp2_with fail
            refine hK.out _ _ ⟨HS.out.c2.1, HS.out.c2.2.1⟩ (fun hHeld => ?_)
            clear hK K'
            try simp only [Act.put, List.setIfInBounds_toArray, List.set_cons_zero, List.set_cons_succ]
            refine wpAnyH_ready (rs := [6, 7]) (by kernel_rfl) (by simp) ?_
            refine AllReadyH.cons (o := ⟨some 9, _, _, _, _, _⟩) rfl (fun K' hK => ?_) (AllReadyH.cons (o := ⟨some 10, _, _, _, _, _⟩) rfl (fun K' hK => ?_) AllReadyH.nil)
            · skip
              go_simp
              obtain ⟨ga, hga⟩ : ∃ q, w_8.heap.size = q := ⟨_, rfl⟩
              have ne_HR_ga := Nat.ne_of_lt HR.out.lt
              rw [hga] at ne_HR_ga
              have ne_HS_ga := Nat.ne_of_lt HS.out.lt
              rw [hga] at ne_HS_ga
              have le_ga : w.heap.size ≤ ga := by rw [← hga]; exact HB.out.size
              obtain ⟨w_9, hw_9⟩ : ∃ q : World, q = w_8.alloc (.cells #[.int .i64 0, .int .i64 0] 53) := ⟨_, rfl⟩
              try rw [← hw_9]
              have HA := hide (show Box w_9 ga 53 #[.int .i64 0, .int .i64 0] by rw [hw_9]; exact Box.made hga.symm)
              have hc_9 : Below w_8.heap.size w_8 w_9 := by rw [hw_9]; exact (Below.refl _ _).alloc (Nat.le_refl _) _
              clear hw_9
              replace HR := hide (HR.out.below hc_9)
              replace HS := hide (HS.out.below hc_9)
              replace HB := hide (HB.out.trans (hc_9.mono HB.out.size))
              clear hc_9
              try simp only [hga]
              clear hga
              refine hK.out _ _ ⟨HS.out.c2.1, HS.out.c2.2.1⟩ (fun hHeld => ?_)
              clear hK K'
              try simp only [Act.put, List.setIfInBounds_toArray, List.set_cons_zero, List.set_cons_succ]
              refine wpAnyH_ready (rs := [7]) (by kernel_rfl) (by simp) ?_
              refine AllReadyH.cons (o := ⟨some 10, _, _, _, _, _⟩) rfl (fun K' hK => ?_) AllReadyH.nil
              go_simp
              obtain ⟨gb, hgb⟩ : ∃ q, w_9.heap.size = q := ⟨_, rfl⟩
              have ne_HR_gb := Nat.ne_of_lt HR.out.lt
              rw [hgb] at ne_HR_gb
              have ne_HS_gb := Nat.ne_of_lt HS.out.lt
              rw [hgb] at ne_HS_gb
              have ne_HA_gb := Nat.ne_of_lt HA.out.lt
              rw [hgb] at ne_HA_gb
              have le_gb : w.heap.size ≤ gb := by rw [← hgb]; exact HB.out.size
              obtain ⟨w_10, hw_10⟩ : ∃ q : World, q = w_9.alloc (.cells #[.int .i64 0, .int .i64 0] 53) := ⟨_, rfl⟩
              try rw [← hw_10]
              have HB2 := hide (show Box w_10 gb 53 #[.int .i64 0, .int .i64 0] by rw [hw_10]; exact Box.made hgb.symm)
              have hc_10 : Below w_9.heap.size w_9 w_10 := by rw [hw_10]; exact (Below.refl _ _).alloc (Nat.le_refl _) _
              clear hw_10
              replace HR := hide (HR.out.below hc_10)
              replace HS := hide (HS.out.below hc_10)
              replace HA := hide (HA.out.below hc_10)
              replace HB := hide (HB.out.trans (hc_10.mono HB.out.size))
              clear hc_10
              try simp only [hgb]
              clear hgb
              refine hK.out _ _ ⟨HS.out.c2.1, HS.out.c2.2.1⟩ (fun hHeld => ?_)
              clear hK K'
              try simp only [Act.put, List.setIfInBounds_toArray, List.set_cons_zero, List.set_cons_succ]
              refine wpAnyH_ready (rs := [8]) (by kernel_rfl) (by simp) ?_
              refine AllReadyH.cons (o := ⟨none, _, _, _, _, _⟩) rfl (fun K' hK => ?_) AllReadyH.nil
              obtain ⟨x0, x1, f0, f1, hlx⟩ := HA.out.c2
              go_simp
              clear x0 x1 f0 f1 hlx
              replace HR := hide ((HR.out.other (p := ⟨ga, 0, none⟩) ne_HR_ga (.int .i64 s0)).other (p := ⟨ga, 1, none⟩) ne_HR_ga (.int .i64 s2))
              replace HS := hide ((HS.out.other (p := ⟨ga, 0, none⟩) ne_HS_ga (.int .i64 s0)).other (p := ⟨ga, 1, none⟩) ne_HS_ga (.int .i64 s2))
              replace HA := hide (HA.out.put2 (.int .i64 s0) (.int .i64 s2))
              replace HB2 := hide ((HB2.out.other (p := ⟨ga, 0, none⟩) (Ne.symm ne_HA_gb) (.int .i64 s0)).other (p := ⟨ga, 1, none⟩) (Ne.symm ne_HA_gb) (.int .i64 s2))
              replace HB := hide ((HB.out.setCell (p := ⟨ga, 0, none⟩) le_ga (.int .i64 s0)).setCell (p := ⟨ga, 1, none⟩) le_ga (.int .i64 s2))
              obtain ⟨w_11, hw_11⟩ : ∃ q : World, (w_10.setCell ⟨ga, 0, none⟩ (.int .i64 s0)).setCell ⟨ga, 1, none⟩ (.int .i64 s2) = q := ⟨_, rfl⟩
              rw [hw_11] at HR HS HA HB2 HB ⊢
              clear hw_11
              refine hK.out _ _ ⟨HS.out.c2.1, HS.out.c2.2.1⟩ (fun hHeld => ?_)
              clear hK K'
              try simp only [Act.put, List.setIfInBounds_toArray, List.set_cons_zero, List.set_cons_succ]
              refine wpAnyH_ready (rs := [9]) (by kernel_rfl) (by simp) ?_
              refine AllReadyH.cons (o := ⟨none, _, _, _, _, _⟩) rfl (fun K' hK => ?_) AllReadyH.nil
              obtain ⟨x0, x1, f0, f1, hlx⟩ := HB2.out.c2
              go_simp
              clear x0 x1 f0 f1 hlx
              replace HR := hide ((HR.out.other (p := ⟨gb, 0, none⟩) ne_HR_gb (.int .i64 s1)).other (p := ⟨gb, 1, none⟩) ne_HR_gb (.int .i64 s3))
              replace HS := hide ((HS.out.other (p := ⟨gb, 0, none⟩) ne_HS_gb (.int .i64 s1)).other (p := ⟨gb, 1, none⟩) ne_HS_gb (.int .i64 s3))
              replace HA := hide ((HA.out.other (p := ⟨gb, 0, none⟩) ne_HA_gb (.int .i64 s1)).other (p := ⟨gb, 1, none⟩) ne_HA_gb (.int .i64 s3))
              replace HB2 := hide (HB2.out.put2 (.int .i64 s1) (.int .i64 s3))
              replace HB := hide ((HB.out.setCell (p := ⟨gb, 0, none⟩) le_gb (.int .i64 s1)).setCell (p := ⟨gb, 1, none⟩) le_gb (.int .i64 s3))
              obtain ⟨w_12, hw_12⟩ : ∃ q : World, (w_11.setCell ⟨gb, 0, none⟩ (.int .i64 s1)).setCell ⟨gb, 1, none⟩ (.int .i64 s3) = q := ⟨_, rfl⟩
              rw [hw_12] at HR HS HA HB2 HB ⊢
              clear hw_12
              refine hK.out _ _ ⟨HS.out.c2.1, HS.out.c2.2.1⟩ (fun hHeld => ?_)
              clear hK K'
              try simp only [Act.put, List.setIfInBounds_toArray, List.set_cons_zero, List.set_cons_succ]
              refine wpAnyH_done (by kernel_rfl) ?_ _
              go_wp2_with fail
              go_meet
              case rel => exact ⟨ga, gb, rfl, rfl, HA, HB2, HR, HB⟩
            · skip
              go_simp
              obtain ⟨gb, hgb⟩ : ∃ q, w_8.heap.size = q := ⟨_, rfl⟩
              have ne_HR_gb := Nat.ne_of_lt HR.out.lt
              rw [hgb] at ne_HR_gb
              have ne_HS_gb := Nat.ne_of_lt HS.out.lt
              rw [hgb] at ne_HS_gb
              have le_gb : w.heap.size ≤ gb := by rw [← hgb]; exact HB.out.size
              obtain ⟨w_13, hw_13⟩ : ∃ q : World, q = w_8.alloc (.cells #[.int .i64 0, .int .i64 0] 53) := ⟨_, rfl⟩
              try rw [← hw_13]
              have HB2 := hide (show Box w_13 gb 53 #[.int .i64 0, .int .i64 0] by rw [hw_13]; exact Box.made hgb.symm)
              have hc_13 : Below w_8.heap.size w_8 w_13 := by rw [hw_13]; exact (Below.refl _ _).alloc (Nat.le_refl _) _
              clear hw_13
              replace HR := hide (HR.out.below hc_13)
              replace HS := hide (HS.out.below hc_13)
              replace HB := hide (HB.out.trans (hc_13.mono HB.out.size))
              clear hc_13
              try simp only [hgb]
              clear hgb
              refine hK.out _ _ ⟨HS.out.c2.1, HS.out.c2.2.1⟩ (fun hHeld => ?_)
              clear hK K'
              try simp only [Act.put, List.setIfInBounds_toArray, List.set_cons_zero, List.set_cons_succ]
              refine wpAnyH_ready (rs := [6]) (by kernel_rfl) (by simp) ?_
              refine AllReadyH.cons (o := ⟨some 9, _, _, _, _, _⟩) rfl (fun K' hK => ?_) AllReadyH.nil
              go_simp
              obtain ⟨ga, hga⟩ : ∃ q, w_13.heap.size = q := ⟨_, rfl⟩
              have ne_HR_ga := Nat.ne_of_lt HR.out.lt
              rw [hga] at ne_HR_ga
              have ne_HS_ga := Nat.ne_of_lt HS.out.lt
              rw [hga] at ne_HS_ga
              have ne_HB2_ga := Nat.ne_of_lt HB2.out.lt
              rw [hga] at ne_HB2_ga
              have le_ga : w.heap.size ≤ ga := by rw [← hga]; exact HB.out.size
              obtain ⟨w_14, hw_14⟩ : ∃ q : World, q = w_13.alloc (.cells #[.int .i64 0, .int .i64 0] 53) := ⟨_, rfl⟩
              try rw [← hw_14]
              have HA := hide (show Box w_14 ga 53 #[.int .i64 0, .int .i64 0] by rw [hw_14]; exact Box.made hga.symm)
              have hc_14 : Below w_13.heap.size w_13 w_14 := by rw [hw_14]; exact (Below.refl _ _).alloc (Nat.le_refl _) _
              clear hw_14
              replace HR := hide (HR.out.below hc_14)
              replace HS := hide (HS.out.below hc_14)
              replace HB2 := hide (HB2.out.below hc_14)
              replace HB := hide (HB.out.trans (hc_14.mono HB.out.size))
              clear hc_14
              try simp only [hga]
              clear hga
              refine hK.out _ _ ⟨HS.out.c2.1, HS.out.c2.2.1⟩ (fun hHeld => ?_)
              clear hK K'
              try simp only [Act.put, List.setIfInBounds_toArray, List.set_cons_zero, List.set_cons_succ]
              refine wpAnyH_ready (rs := [8]) (by kernel_rfl) (by simp) ?_
              refine AllReadyH.cons (o := ⟨none, _, _, _, _, _⟩) rfl (fun K' hK => ?_) AllReadyH.nil
              obtain ⟨x0, x1, f0, f1, hlx⟩ := HA.out.c2
              go_simp
              clear x0 x1 f0 f1 hlx
              replace HR := hide ((HR.out.other (p := ⟨ga, 0, none⟩) ne_HR_ga (.int .i64 s0)).other (p := ⟨ga, 1, none⟩) ne_HR_ga (.int .i64 s2))
              replace HS := hide ((HS.out.other (p := ⟨ga, 0, none⟩) ne_HS_ga (.int .i64 s0)).other (p := ⟨ga, 1, none⟩) ne_HS_ga (.int .i64 s2))
              replace HB2 := hide ((HB2.out.other (p := ⟨ga, 0, none⟩) ne_HB2_ga (.int .i64 s0)).other (p := ⟨ga, 1, none⟩) ne_HB2_ga (.int .i64 s2))
              replace HA := hide (HA.out.put2 (.int .i64 s0) (.int .i64 s2))
              replace HB := hide ((HB.out.setCell (p := ⟨ga, 0, none⟩) le_ga (.int .i64 s0)).setCell (p := ⟨ga, 1, none⟩) le_ga (.int .i64 s2))
              obtain ⟨w_15, hw_15⟩ : ∃ q : World, (w_14.setCell ⟨ga, 0, none⟩ (.int .i64 s0)).setCell ⟨ga, 1, none⟩ (.int .i64 s2) = q := ⟨_, rfl⟩
              rw [hw_15] at HR HS HB2 HA HB ⊢
              clear hw_15
              refine hK.out _ _ ⟨HS.out.c2.1, HS.out.c2.2.1⟩ (fun hHeld => ?_)
              clear hK K'
              try simp only [Act.put, List.setIfInBounds_toArray, List.set_cons_zero, List.set_cons_succ]
              refine wpAnyH_ready (rs := [9]) (by kernel_rfl) (by simp) ?_
              refine AllReadyH.cons (o := ⟨none, _, _, _, _, _⟩) rfl (fun K' hK => ?_) AllReadyH.nil
              obtain ⟨x0, x1, f0, f1, hlx⟩ := HB2.out.c2
              go_simp
              clear x0 x1 f0 f1 hlx
              replace HR := hide ((HR.out.other (p := ⟨gb, 0, none⟩) ne_HR_gb (.int .i64 s1)).other (p := ⟨gb, 1, none⟩) ne_HR_gb (.int .i64 s3))
              replace HS := hide ((HS.out.other (p := ⟨gb, 0, none⟩) ne_HS_gb (.int .i64 s1)).other (p := ⟨gb, 1, none⟩) ne_HS_gb (.int .i64 s3))
              replace HB2 := hide (HB2.out.put2 (.int .i64 s1) (.int .i64 s3))
              replace HA := hide ((HA.out.other (p := ⟨gb, 0, none⟩) (Ne.symm ne_HB2_ga) (.int .i64 s1)).other (p := ⟨gb, 1, none⟩) (Ne.symm ne_HB2_ga) (.int .i64 s3))
              replace HB := hide ((HB.out.setCell (p := ⟨gb, 0, none⟩) le_gb (.int .i64 s1)).setCell (p := ⟨gb, 1, none⟩) le_gb (.int .i64 s3))
              obtain ⟨w_16, hw_16⟩ : ∃ q : World, (w_15.setCell ⟨gb, 0, none⟩ (.int .i64 s1)).setCell ⟨gb, 1, none⟩ (.int .i64 s3) = q := ⟨_, rfl⟩
              rw [hw_16] at HR HS HB2 HA HB ⊢
              clear hw_16
              refine hK.out _ _ ⟨HS.out.c2.1, HS.out.c2.2.1⟩ (fun hHeld => ?_)
              clear hK K'
              try simp only [Act.put, List.setIfInBounds_toArray, List.set_cons_zero, List.set_cons_succ]
              refine wpAnyH_done (by kernel_rfl) ?_ _
              go_wp2_with fail
              go_meet
              case rel => exact ⟨ga, gb, rfl, rfl, HA, HB2, HR, HB⟩
          · skip
            go_simp
            obtain ⟨ga, hga⟩ : ∃ q, w_7.heap.size = q := ⟨_, rfl⟩
            have ne_HR_ga := Nat.ne_of_lt HR.out.lt
            rw [hga] at ne_HR_ga
            have ne_HS_ga := Nat.ne_of_lt HS.out.lt
            rw [hga] at ne_HS_ga
            have le_ga : w.heap.size ≤ ga := by rw [← hga]; exact HB.out.size
            obtain ⟨w_17, hw_17⟩ : ∃ q : World, q = w_7.alloc (.cells #[.int .i64 0, .int .i64 0] 53) := ⟨_, rfl⟩
            try rw [← hw_17]
            have HA := hide (show Box w_17 ga 53 #[.int .i64 0, .int .i64 0] by rw [hw_17]; exact Box.made hga.symm)
            have hc_17 : Below w_7.heap.size w_7 w_17 := by rw [hw_17]; exact (Below.refl _ _).alloc (Nat.le_refl _) _
            clear hw_17
            replace HR := hide (HR.out.below hc_17)
            replace HS := hide (HS.out.below hc_17)
            replace HB := hide (HB.out.trans (hc_17.mono HB.out.size))
            clear hc_17
            try simp only [hga]
            clear hga
            refine hK.out _ _ ⟨HS.out.c2.1, HS.out.c2.2.1⟩ (fun hHeld => ?_)
            clear hK K'
            try simp only [Act.put, List.setIfInBounds_toArray, List.set_cons_zero, List.set_cons_succ]
            refine wpAnyH_ready (rs := [5, 7]) (by kernel_rfl) (by simp) ?_
            refine AllReadyH.cons (o := ⟨some 42, _, _, _, _, _⟩) rfl (fun K' hK => ?_) (AllReadyH.cons (o := ⟨some 10, _, _, _, _, _⟩) rfl (fun K' hK => ?_) AllReadyH.nil)
            · skip
              go_simp
              go_at_call 81
              refine (HG1.out _).mono ?_
              rintro e_ w_18 ⟨rfl, hb_18⟩
              replace HR := hide (HR.out.below hb_18)
              replace HS := hide (HS.out.below hb_18)
              replace HA := hide (HA.out.below hb_18)
              replace HB := hide (HB.out.trans (hb_18.mono HB.out.size))
              clear hb_18
              go_wp2_with fail
              refine hK.out _ _ ⟨HS.out.c2.1, HS.out.c2.2.1⟩ (fun hHeld => ?_)
              clear hK K'
              try simp only [Act.put, List.setIfInBounds_toArray, List.set_cons_zero, List.set_cons_succ]
              refine wpAnyH_ready (rs := [7]) (by kernel_rfl) (by simp) ?_
              refine AllReadyH.cons (o := ⟨some 10, _, _, _, _, _⟩) rfl (fun K' hK => ?_) AllReadyH.nil
              go_simp
              obtain ⟨gb, hgb⟩ : ∃ q, w_18.heap.size = q := ⟨_, rfl⟩
              have ne_HR_gb := Nat.ne_of_lt HR.out.lt
              rw [hgb] at ne_HR_gb
              have ne_HS_gb := Nat.ne_of_lt HS.out.lt
              rw [hgb] at ne_HS_gb
              have ne_HA_gb := Nat.ne_of_lt HA.out.lt
              rw [hgb] at ne_HA_gb
              have le_gb : w.heap.size ≤ gb := by rw [← hgb]; exact HB.out.size
              obtain ⟨w_19, hw_19⟩ : ∃ q : World, q = w_18.alloc (.cells #[.int .i64 0, .int .i64 0] 53) := ⟨_, rfl⟩
              try rw [← hw_19]
              have HB2 := hide (show Box w_19 gb 53 #[.int .i64 0, .int .i64 0] by rw [hw_19]; exact Box.made hgb.symm)
              have hc_19 : Below w_18.heap.size w_18 w_19 := by rw [hw_19]; exact (Below.refl _ _).alloc (Nat.le_refl _) _
              clear hw_19
              replace HR := hide (HR.out.below hc_19)
              replace HS := hide (HS.out.below hc_19)
              replace HA := hide (HA.out.below hc_19)
              replace HB := hide (HB.out.trans (hc_19.mono HB.out.size))
              clear hc_19
              try simp only [hgb]
              clear hgb
              refine hK.out _ _ ⟨HS.out.c2.1, HS.out.c2.2.1⟩ (fun hHeld => ?_)
              clear hK K'
              try simp only [Act.put, List.setIfInBounds_toArray, List.set_cons_zero, List.set_cons_succ]
              refine wpAnyH_ready (rs := [8]) (by kernel_rfl) (by simp) ?_
              refine AllReadyH.cons (o := ⟨none, _, _, _, _, _⟩) rfl (fun K' hK => ?_) AllReadyH.nil
              obtain ⟨x0, x1, f0, f1, hlx⟩ := HA.out.c2
              go_simp
              clear x0 x1 f0 f1 hlx
              replace HR := hide ((HR.out.other (p := ⟨ga, 0, none⟩) ne_HR_ga (.int .i64 s0)).other (p := ⟨ga, 1, none⟩) ne_HR_ga (.int .i64 s2))
              replace HS := hide ((HS.out.other (p := ⟨ga, 0, none⟩) ne_HS_ga (.int .i64 s0)).other (p := ⟨ga, 1, none⟩) ne_HS_ga (.int .i64 s2))
              replace HA := hide (HA.out.put2 (.int .i64 s0) (.int .i64 s2))
              replace HB2 := hide ((HB2.out.other (p := ⟨ga, 0, none⟩) (Ne.symm ne_HA_gb) (.int .i64 s0)).other (p := ⟨ga, 1, none⟩) (Ne.symm ne_HA_gb) (.int .i64 s2))
              replace HB := hide ((HB.out.setCell (p := ⟨ga, 0, none⟩) le_ga (.int .i64 s0)).setCell (p := ⟨ga, 1, none⟩) le_ga (.int .i64 s2))
              obtain ⟨w_20, hw_20⟩ : ∃ q : World, (w_19.setCell ⟨ga, 0, none⟩ (.int .i64 s0)).setCell ⟨ga, 1, none⟩ (.int .i64 s2) = q := ⟨_, rfl⟩
              rw [hw_20] at HR HS HA HB2 HB ⊢
              clear hw_20
              refine hK.out _ _ ⟨HS.out.c2.1, HS.out.c2.2.1⟩ (fun hHeld => ?_)
              clear hK K'
              try simp only [Act.put, List.setIfInBounds_toArray, List.set_cons_zero, List.set_cons_succ]
              refine wpAnyH_ready (rs := [9]) (by kernel_rfl) (by simp) ?_
              refine AllReadyH.cons (o := ⟨none, _, _, _, _, _⟩) rfl (fun K' hK => ?_) AllReadyH.nil
              obtain ⟨x0, x1, f0, f1, hlx⟩ := HB2.out.c2
              go_simp
              clear x0 x1 f0 f1 hlx
              replace HR := hide ((HR.out.other (p := ⟨gb, 0, none⟩) ne_HR_gb (.int .i64 s1)).other (p := ⟨gb, 1, none⟩) ne_HR_gb (.int .i64 s3))
              replace HS := hide ((HS.out.other (p := ⟨gb, 0, none⟩) ne_HS_gb (.int .i64 s1)).other (p := ⟨gb, 1, none⟩) ne_HS_gb (.int .i64 s3))
              replace HA := hide ((HA.out.other (p := ⟨gb, 0, none⟩) ne_HA_gb (.int .i64 s1)).other (p := ⟨gb, 1, none⟩) ne_HA_gb (.int .i64 s3))
              replace HB2 := hide (HB2.out.put2 (.int .i64 s1) (.int .i64 s3))
              replace HB := hide ((HB.out.setCell (p := ⟨gb, 0, none⟩) le_gb (.int .i64 s1)).setCell (p := ⟨gb, 1, none⟩) le_gb (.int .i64 s3))
              obtain ⟨w_21, hw_21⟩ : ∃ q : World, (w_20.setCell ⟨gb, 0, none⟩ (.int .i64 s1)).setCell ⟨gb, 1, none⟩ (.int .i64 s3) = q := ⟨_, rfl⟩
              rw [hw_21] at HR HS HA HB2 HB ⊢
              clear hw_21
              refine hK.out _ _ ⟨HS.out.c2.1, HS.out.c2.2.1⟩ (fun hHeld => ?_)
              clear hK K'
              try simp only [Act.put, List.setIfInBounds_toArray, List.set_cons_zero, List.set_cons_succ]
              refine wpAnyH_done (by kernel_rfl) ?_ _
              go_wp2_with fail
              go_meet
              case rel => exact ⟨ga, gb, rfl, rfl, HA, HB2, HR, HB⟩
            · skip
              go_simp
              obtain ⟨gb, hgb⟩ : ∃ q, w_17.heap.size = q := ⟨_, rfl⟩
              have ne_HR_gb := Nat.ne_of_lt HR.out.lt
              rw [hgb] at ne_HR_gb
              have ne_HS_gb := Nat.ne_of_lt HS.out.lt
              rw [hgb] at ne_HS_gb
              have ne_HA_gb := Nat.ne_of_lt HA.out.lt
              rw [hgb] at ne_HA_gb
              have le_gb : w.heap.size ≤ gb := by rw [← hgb]; exact HB.out.size
              obtain ⟨w_22, hw_22⟩ : ∃ q : World, q = w_17.alloc (.cells #[.int .i64 0, .int .i64 0] 53) := ⟨_, rfl⟩
              try rw [← hw_22]
              have HB2 := hide (show Box w_22 gb 53 #[.int .i64 0, .int .i64 0] by rw [hw_22]; exact Box.made hgb.symm)
              have hc_22 : Below w_17.heap.size w_17 w_22 := by rw [hw_22]; exact (Below.refl _ _).alloc (Nat.le_refl _) _
              clear hw_22
              replace HR := hide (HR.out.below hc_22)
              replace HS := hide (HS.out.below hc_22)
              replace HA := hide (HA.out.below hc_22)
              replace HB := hide (HB.out.trans (hc_22.mono HB.out.size))
              clear hc_22
              try simp only [hgb]
              clear hgb
              refine hK.out _ _ ⟨HS.out.c2.1, HS.out.c2.2.1⟩ (fun hHeld => ?_)
              clear hK K'
              try simp only [Act.put, List.setIfInBounds_toArray, List.set_cons_zero, List.set_cons_succ]
              refine wpAnyH_ready (rs := [5]) (by kernel_rfl) (by simp) ?_
              refine AllReadyH.cons (o := ⟨some 42, _, _, _, _, _⟩) rfl (fun K' hK => ?_) AllReadyH.nil
              go_simp
              go_at_call 81
              refine (HG1.out _).mono ?_
              rintro e_ w_23 ⟨rfl, hb_23⟩
              replace HR := hide (HR.out.below hb_23)
              replace HS := hide (HS.out.below hb_23)
              replace HA := hide (HA.out.below hb_23)
              replace HB2 := hide (HB2.out.below hb_23)
              replace HB := hide (HB.out.trans (hb_23.mono HB.out.size))
              clear hb_23
              go_wp2_with fail
              refine hK.out _ _ ⟨HS.out.c2.1, HS.out.c2.2.1⟩ (fun hHeld => ?_)
              clear hK K'
              try simp only [Act.put, List.setIfInBounds_toArray, List.set_cons_zero, List.set_cons_succ]
              refine wpAnyH_ready (rs := [8]) (by kernel_rfl) (by simp) ?_
              refine AllReadyH.cons (o := ⟨none, _, _, _, _, _⟩) rfl (fun K' hK => ?_) AllReadyH.nil
              obtain ⟨x0, x1, f0, f1, hlx⟩ := HA.out.c2
              go_simp
              clear x0 x1 f0 f1 hlx
              replace HR := hide ((HR.out.other (p := ⟨ga, 0, none⟩) ne_HR_ga (.int .i64 s0)).other (p := ⟨ga, 1, none⟩) ne_HR_ga (.int .i64 s2))
              replace HS := hide ((HS.out.other (p := ⟨ga, 0, none⟩) ne_HS_ga (.int .i64 s0)).other (p := ⟨ga, 1, none⟩) ne_HS_ga (.int .i64 s2))
              replace HA := hide (HA.out.put2 (.int .i64 s0) (.int .i64 s2))
              replace HB2 := hide ((HB2.out.other (p := ⟨ga, 0, none⟩) (Ne.symm ne_HA_gb) (.int .i64 s0)).other (p := ⟨ga, 1, none⟩) (Ne.symm ne_HA_gb) (.int .i64 s2))
              replace HB := hide ((HB.out.setCell (p := ⟨ga, 0, none⟩) le_ga (.int .i64 s0)).setCell (p := ⟨ga, 1, none⟩) le_ga (.int .i64 s2))
              obtain ⟨w_24, hw_24⟩ : ∃ q : World, (w_23.setCell ⟨ga, 0, none⟩ (.int .i64 s0)).setCell ⟨ga, 1, none⟩ (.int .i64 s2) = q := ⟨_, rfl⟩
              rw [hw_24] at HR HS HA HB2 HB ⊢
              clear hw_24
              refine hK.out _ _ ⟨HS.out.c2.1, HS.out.c2.2.1⟩ (fun hHeld => ?_)
              clear hK K'
              try simp only [Act.put, List.setIfInBounds_toArray, List.set_cons_zero, List.set_cons_succ]
              refine wpAnyH_ready (rs := [9]) (by kernel_rfl) (by simp) ?_
              refine AllReadyH.cons (o := ⟨none, _, _, _, _, _⟩) rfl (fun K' hK => ?_) AllReadyH.nil
              obtain ⟨x0, x1, f0, f1, hlx⟩ := HB2.out.c2
              go_simp
              clear x0 x1 f0 f1 hlx
              replace HR := hide ((HR.out.other (p := ⟨gb, 0, none⟩) ne_HR_gb (.int .i64 s1)).other (p := ⟨gb, 1, none⟩) ne_HR_gb (.int .i64 s3))
              replace HS := hide ((HS.out.other (p := ⟨gb, 0, none⟩) ne_HS_gb (.int .i64 s1)).other (p := ⟨gb, 1, none⟩) ne_HS_gb (.int .i64 s3))
              replace HA := hide ((HA.out.other (p := ⟨gb, 0, none⟩) ne_HA_gb (.int .i64 s1)).other (p := ⟨gb, 1, none⟩) ne_HA_gb (.int .i64 s3))
              replace HB2 := hide (HB2.out.put2 (.int .i64 s1) (.int .i64 s3))
              replace HB := hide ((HB.out.setCell (p := ⟨gb, 0, none⟩) le_gb (.int .i64 s1)).setCell (p := ⟨gb, 1, none⟩) le_gb (.int .i64 s3))
              obtain ⟨w_25, hw_25⟩ : ∃ q : World, (w_24.setCell ⟨gb, 0, none⟩ (.int .i64 s1)).setCell ⟨gb, 1, none⟩ (.int .i64 s3) = q := ⟨_, rfl⟩
              rw [hw_25] at HR HS HA HB2 HB ⊢
              clear hw_25
              refine hK.out _ _ ⟨HS.out.c2.1, HS.out.c2.2.1⟩ (fun hHeld => ?_)
              clear hK K'
              try simp only [Act.put, List.setIfInBounds_toArray, List.set_cons_zero, List.set_cons_succ]
              refine wpAnyH_done (by kernel_rfl) ?_ _
              go_wp2_with fail
              go_meet
              case rel => exact ⟨ga, gb, rfl, rfl, HA, HB2, HR, HB⟩
          · skip
            go_simp
            obtain ⟨gb, hgb⟩ : ∃ q, w_7.heap.size = q := ⟨_, rfl⟩
            have ne_HR_gb := Nat.ne_of_lt HR.out.lt
            rw [hgb] at ne_HR_gb
            have ne_HS_gb := Nat.ne_of_lt HS.out.lt
            rw [hgb] at ne_HS_gb
            have le_gb : w.heap.size ≤ gb := by rw [← hgb]; exact HB.out.size
            obtain ⟨w_26, hw_26⟩ : ∃ q : World, q = w_7.alloc (.cells #[.int .i64 0, .int .i64 0] 53) := ⟨_, rfl⟩
            try rw [← hw_26]
            have HB2 := hide (show Box w_26 gb 53 #[.int .i64 0, .int .i64 0] by rw [hw_26]; exact Box.made hgb.symm)
            have hc_26 : Below w_7.heap.size w_7 w_26 := by rw [hw_26]; exact (Below.refl _ _).alloc (Nat.le_refl _) _
            clear hw_26
            replace HR := hide (HR.out.below hc_26)
            replace HS := hide (HS.out.below hc_26)
            replace HB := hide (HB.out.trans (hc_26.mono HB.out.size))
            clear hc_26
            try simp only [hgb]
            clear hgb
            refine hK.out _ _ ⟨HS.out.c2.1, HS.out.c2.2.1⟩ (fun hHeld => ?_)
            clear hK K'
            try simp only [Act.put, List.setIfInBounds_toArray, List.set_cons_zero, List.set_cons_succ]
            refine wpAnyH_ready (rs := [5, 6]) (by kernel_rfl) (by simp) ?_
            refine AllReadyH.cons (o := ⟨some 42, _, _, _, _, _⟩) rfl (fun K' hK => ?_) (AllReadyH.cons (o := ⟨some 9, _, _, _, _, _⟩) rfl (fun K' hK => ?_) AllReadyH.nil)
            · skip
              go_simp
              go_at_call 81
              refine (HG1.out _).mono ?_
              rintro e_ w_27 ⟨rfl, hb_27⟩
              replace HR := hide (HR.out.below hb_27)
              replace HS := hide (HS.out.below hb_27)
              replace HB2 := hide (HB2.out.below hb_27)
              replace HB := hide (HB.out.trans (hb_27.mono HB.out.size))
              clear hb_27
              go_wp2_with fail
              refine hK.out _ _ ⟨HS.out.c2.1, HS.out.c2.2.1⟩ (fun hHeld => ?_)
              clear hK K'
              try simp only [Act.put, List.setIfInBounds_toArray, List.set_cons_zero, List.set_cons_succ]
              refine wpAnyH_ready (rs := [6]) (by kernel_rfl) (by simp) ?_
              refine AllReadyH.cons (o := ⟨some 9, _, _, _, _, _⟩) rfl (fun K' hK => ?_) AllReadyH.nil
              go_simp
              obtain ⟨ga, hga⟩ : ∃ q, w_27.heap.size = q := ⟨_, rfl⟩
              have ne_HR_ga := Nat.ne_of_lt HR.out.lt
              rw [hga] at ne_HR_ga
              have ne_HS_ga := Nat.ne_of_lt HS.out.lt
              rw [hga] at ne_HS_ga
              have ne_HB2_ga := Nat.ne_of_lt HB2.out.lt
              rw [hga] at ne_HB2_ga
              have le_ga : w.heap.size ≤ ga := by rw [← hga]; exact HB.out.size
              obtain ⟨w_28, hw_28⟩ : ∃ q : World, q = w_27.alloc (.cells #[.int .i64 0, .int .i64 0] 53) := ⟨_, rfl⟩
              try rw [← hw_28]
              have HA := hide (show Box w_28 ga 53 #[.int .i64 0, .int .i64 0] by rw [hw_28]; exact Box.made hga.symm)
              have hc_28 : Below w_27.heap.size w_27 w_28 := by rw [hw_28]; exact (Below.refl _ _).alloc (Nat.le_refl _) _
              clear hw_28
              replace HR := hide (HR.out.below hc_28)
              replace HS := hide (HS.out.below hc_28)
              replace HB2 := hide (HB2.out.below hc_28)
              replace HB := hide (HB.out.trans (hc_28.mono HB.out.size))
              clear hc_28
              try simp only [hga]
              clear hga
              refine hK.out _ _ ⟨HS.out.c2.1, HS.out.c2.2.1⟩ (fun hHeld => ?_)
              clear hK K'
              try simp only [Act.put, List.setIfInBounds_toArray, List.set_cons_zero, List.set_cons_succ]
              refine wpAnyH_ready (rs := [8]) (by kernel_rfl) (by simp) ?_
              refine AllReadyH.cons (o := ⟨none, _, _, _, _, _⟩) rfl (fun K' hK => ?_) AllReadyH.nil
              obtain ⟨x0, x1, f0, f1, hlx⟩ := HA.out.c2
              go_simp
              clear x0 x1 f0 f1 hlx
              replace HR := hide ((HR.out.other (p := ⟨ga, 0, none⟩) ne_HR_ga (.int .i64 s0)).other (p := ⟨ga, 1, none⟩) ne_HR_ga (.int .i64 s2))
              replace HS := hide ((HS.out.other (p := ⟨ga, 0, none⟩) ne_HS_ga (.int .i64 s0)).other (p := ⟨ga, 1, none⟩) ne_HS_ga (.int .i64 s2))
              replace HB2 := hide ((HB2.out.other (p := ⟨ga, 0, none⟩) ne_HB2_ga (.int .i64 s0)).other (p := ⟨ga, 1, none⟩) ne_HB2_ga (.int .i64 s2))
              replace HA := hide (HA.out.put2 (.int .i64 s0) (.int .i64 s2))
              replace HB := hide ((HB.out.setCell (p := ⟨ga, 0, none⟩) le_ga (.int .i64 s0)).setCell (p := ⟨ga, 1, none⟩) le_ga (.int .i64 s2))
              obtain ⟨w_29, hw_29⟩ : ∃ q : World, (w_28.setCell ⟨ga, 0, none⟩ (.int .i64 s0)).setCell ⟨ga, 1, none⟩ (.int .i64 s2) = q := ⟨_, rfl⟩
              rw [hw_29] at HR HS HB2 HA HB ⊢
              clear hw_29
              refine hK.out _ _ ⟨HS.out.c2.1, HS.out.c2.2.1⟩ (fun hHeld => ?_)
              clear hK K'
              try simp only [Act.put, List.setIfInBounds_toArray, List.set_cons_zero, List.set_cons_succ]
              refine wpAnyH_ready (rs := [9]) (by kernel_rfl) (by simp) ?_
              refine AllReadyH.cons (o := ⟨none, _, _, _, _, _⟩) rfl (fun K' hK => ?_) AllReadyH.nil
              obtain ⟨x0, x1, f0, f1, hlx⟩ := HB2.out.c2
              go_simp
              clear x0 x1 f0 f1 hlx
              replace HR := hide ((HR.out.other (p := ⟨gb, 0, none⟩) ne_HR_gb (.int .i64 s1)).other (p := ⟨gb, 1, none⟩) ne_HR_gb (.int .i64 s3))
              replace HS := hide ((HS.out.other (p := ⟨gb, 0, none⟩) ne_HS_gb (.int .i64 s1)).other (p := ⟨gb, 1, none⟩) ne_HS_gb (.int .i64 s3))
              replace HB2 := hide (HB2.out.put2 (.int .i64 s1) (.int .i64 s3))
              replace HA := hide ((HA.out.other (p := ⟨gb, 0, none⟩) (Ne.symm ne_HB2_ga) (.int .i64 s1)).other (p := ⟨gb, 1, none⟩) (Ne.symm ne_HB2_ga) (.int .i64 s3))
              replace HB := hide ((HB.out.setCell (p := ⟨gb, 0, none⟩) le_gb (.int .i64 s1)).setCell (p := ⟨gb, 1, none⟩) le_gb (.int .i64 s3))
              obtain ⟨w_30, hw_30⟩ : ∃ q : World, (w_29.setCell ⟨gb, 0, none⟩ (.int .i64 s1)).setCell ⟨gb, 1, none⟩ (.int .i64 s3) = q := ⟨_, rfl⟩
              rw [hw_30] at HR HS HB2 HA HB ⊢
              clear hw_30
              refine hK.out _ _ ⟨HS.out.c2.1, HS.out.c2.2.1⟩ (fun hHeld => ?_)
              clear hK K'
              try simp only [Act.put, List.setIfInBounds_toArray, List.set_cons_zero, List.set_cons_succ]
              refine wpAnyH_done (by kernel_rfl) ?_ _
              go_wp2_with fail
              go_meet
              case rel => exact ⟨ga, gb, rfl, rfl, HA, HB2, HR, HB⟩
            · skip
              go_simp
              obtain ⟨ga, hga⟩ : ∃ q, w_26.heap.size = q := ⟨_, rfl⟩
              have ne_HR_ga := Nat.ne_of_lt HR.out.lt
              rw [hga] at ne_HR_ga
              have ne_HS_ga := Nat.ne_of_lt HS.out.lt
              rw [hga] at ne_HS_ga
              have ne_HB2_ga := Nat.ne_of_lt HB2.out.lt
              rw [hga] at ne_HB2_ga
              have le_ga : w.heap.size ≤ ga := by rw [← hga]; exact HB.out.size
              obtain ⟨w_31, hw_31⟩ : ∃ q : World, q = w_26.alloc (.cells #[.int .i64 0, .int .i64 0] 53) := ⟨_, rfl⟩
              try rw [← hw_31]
              have HA := hide (show Box w_31 ga 53 #[.int .i64 0, .int .i64 0] by rw [hw_31]; exact Box.made hga.symm)
              have hc_31 : Below w_26.heap.size w_26 w_31 := by rw [hw_31]; exact (Below.refl _ _).alloc (Nat.le_refl _) _
              clear hw_31
              replace HR := hide (HR.out.below hc_31)
              replace HS := hide (HS.out.below hc_31)
              replace HB2 := hide (HB2.out.below hc_31)
              replace HB := hide (HB.out.trans (hc_31.mono HB.out.size))
              clear hc_31
              try simp only [hga]
              clear hga
              refine hK.out _ _ ⟨HS.out.c2.1, HS.out.c2.2.1⟩ (fun hHeld => ?_)
              clear hK K'
              try simp only [Act.put, List.setIfInBounds_toArray, List.set_cons_zero, List.set_cons_succ]
              refine wpAnyH_ready (rs := [5]) (by kernel_rfl) (by simp) ?_
              refine AllReadyH.cons (o := ⟨some 42, _, _, _, _, _⟩) rfl (fun K' hK => ?_) AllReadyH.nil
              go_simp
              go_at_call 81
              refine (HG1.out _).mono ?_
              rintro e_ w_32 ⟨rfl, hb_32⟩
              replace HR := hide (HR.out.below hb_32)
              replace HS := hide (HS.out.below hb_32)
              replace HB2 := hide (HB2.out.below hb_32)
              replace HA := hide (HA.out.below hb_32)
              replace HB := hide (HB.out.trans (hb_32.mono HB.out.size))
              clear hb_32
              go_wp2_with fail
              refine hK.out _ _ ⟨HS.out.c2.1, HS.out.c2.2.1⟩ (fun hHeld => ?_)
              clear hK K'
              try simp only [Act.put, List.setIfInBounds_toArray, List.set_cons_zero, List.set_cons_succ]
              refine wpAnyH_ready (rs := [8]) (by kernel_rfl) (by simp) ?_
              refine AllReadyH.cons (o := ⟨none, _, _, _, _, _⟩) rfl (fun K' hK => ?_) AllReadyH.nil
              obtain ⟨x0, x1, f0, f1, hlx⟩ := HA.out.c2
              go_simp
              clear x0 x1 f0 f1 hlx
              replace HR := hide ((HR.out.other (p := ⟨ga, 0, none⟩) ne_HR_ga (.int .i64 s0)).other (p := ⟨ga, 1, none⟩) ne_HR_ga (.int .i64 s2))
              replace HS := hide ((HS.out.other (p := ⟨ga, 0, none⟩) ne_HS_ga (.int .i64 s0)).other (p := ⟨ga, 1, none⟩) ne_HS_ga (.int .i64 s2))
              replace HB2 := hide ((HB2.out.other (p := ⟨ga, 0, none⟩) ne_HB2_ga (.int .i64 s0)).other (p := ⟨ga, 1, none⟩) ne_HB2_ga (.int .i64 s2))
              replace HA := hide (HA.out.put2 (.int .i64 s0) (.int .i64 s2))
              replace HB := hide ((HB.out.setCell (p := ⟨ga, 0, none⟩) le_ga (.int .i64 s0)).setCell (p := ⟨ga, 1, none⟩) le_ga (.int .i64 s2))
              obtain ⟨w_33, hw_33⟩ : ∃ q : World, (w_32.setCell ⟨ga, 0, none⟩ (.int .i64 s0)).setCell ⟨ga, 1, none⟩ (.int .i64 s2) = q := ⟨_, rfl⟩
              rw [hw_33] at HR HS HB2 HA HB ⊢
              clear hw_33
              refine hK.out _ _ ⟨HS.out.c2.1, HS.out.c2.2.1⟩ (fun hHeld => ?_)
              clear hK K'
              try simp only [Act.put, List.setIfInBounds_toArray, List.set_cons_zero, List.set_cons_succ]
              refine wpAnyH_ready (rs := [9]) (by kernel_rfl) (by simp) ?_
              refine AllReadyH.cons (o := ⟨none, _, _, _, _, _⟩) rfl (fun K' hK => ?_) AllReadyH.nil
              obtain ⟨x0, x1, f0, f1, hlx⟩ := HB2.out.c2
              go_simp
              clear x0 x1 f0 f1 hlx
              replace HR := hide ((HR.out.other (p := ⟨gb, 0, none⟩) ne_HR_gb (.int .i64 s1)).other (p := ⟨gb, 1, none⟩) ne_HR_gb (.int .i64 s3))
              replace HS := hide ((HS.out.other (p := ⟨gb, 0, none⟩) ne_HS_gb (.int .i64 s1)).other (p := ⟨gb, 1, none⟩) ne_HS_gb (.int .i64 s3))
              replace HB2 := hide (HB2.out.put2 (.int .i64 s1) (.int .i64 s3))
              replace HA := hide ((HA.out.other (p := ⟨gb, 0, none⟩) (Ne.symm ne_HB2_ga) (.int .i64 s1)).other (p := ⟨gb, 1, none⟩) (Ne.symm ne_HB2_ga) (.int .i64 s3))
              replace HB := hide ((HB.out.setCell (p := ⟨gb, 0, none⟩) le_gb (.int .i64 s1)).setCell (p := ⟨gb, 1, none⟩) le_gb (.int .i64 s3))
              obtain ⟨w_34, hw_34⟩ : ∃ q : World, (w_33.setCell ⟨gb, 0, none⟩ (.int .i64 s1)).setCell ⟨gb, 1, none⟩ (.int .i64 s3) = q := ⟨_, rfl⟩
              rw [hw_34] at HR HS HB2 HA HB ⊢
              clear hw_34
              refine hK.out _ _ ⟨HS.out.c2.1, HS.out.c2.2.1⟩ (fun hHeld => ?_)
              clear hK K'
              try simp only [Act.put, List.setIfInBounds_toArray, List.set_cons_zero, List.set_cons_succ]
              refine wpAnyH_done (by kernel_rfl) ?_ _
              go_wp2_with fail
              go_meet
              case rel => exact ⟨ga, gb, rfl, rfl, HA, HB2, HR, HB⟩
        · skip
          go_simp
          obtain ⟨ga, hga⟩ : ∃ q, w_6.heap.size = q := ⟨_, rfl⟩
          have ne_HR_ga := Nat.ne_of_lt HR.out.lt
          rw [hga] at ne_HR_ga
          have ne_HS_ga := Nat.ne_of_lt HS.out.lt
          rw [hga] at ne_HS_ga
          have le_ga : w.heap.size ≤ ga := by rw [← hga]; exact HB.out.size
          obtain ⟨w_35, hw_35⟩ : ∃ q : World, q = w_6.alloc (.cells #[.int .i64 0, .int .i64 0] 53) := ⟨_, rfl⟩
          try rw [← hw_35]
          have HA := hide (show Box w_35 ga 53 #[.int .i64 0, .int .i64 0] by rw [hw_35]; exact Box.made hga.symm)
          have hc_35 : Below w_6.heap.size w_6 w_35 := by rw [hw_35]; exact (Below.refl _ _).alloc (Nat.le_refl _) _
          clear hw_35
          replace HR := hide (HR.out.below hc_35)
          replace HS := hide (HS.out.below hc_35)
          replace HB := hide (HB.out.trans (hc_35.mono HB.out.size))
          clear hc_35
          try simp only [hga]
          clear hga
          refine hK.out _ _ ⟨HS.out.c2.1, HS.out.c2.2.1⟩ (fun hHeld => ?_)
          clear hK K'
          try simp only [Act.put, List.setIfInBounds_toArray, List.set_cons_zero, List.set_cons_succ]
          refine wpAnyH_ready (rs := [2, 7]) (by kernel_rfl) (by simp) ?_
          refine AllReadyH.cons (o := ⟨some 39, _, _, _, _, _⟩) rfl (fun K' hK => ?_) (AllReadyH.cons (o := ⟨some 10, _, _, _, _, _⟩) rfl (fun K' hK => ?_) AllReadyH.nil)
          · skip
            go_simp
            go_at_call 81
            refine (HG0.out _).mono ?_
            rintro e_ w_36 ⟨rfl, hb_36⟩
            replace HR := hide (HR.out.below hb_36)
            replace HS := hide (HS.out.below hb_36)
            replace HA := hide (HA.out.below hb_36)
            replace HB := hide (HB.out.trans (hb_36.mono HB.out.size))
            clear hb_36
            go_wp2_with fail
            refine hK.out _ _ ⟨HS.out.c2.1, HS.out.c2.2.1⟩ (fun hHeld => ?_)
            clear hK K'
            try simp only [Act.put, List.setIfInBounds_toArray, List.set_cons_zero, List.set_cons_succ]
            refine wpAnyH_ready (rs := [5, 7]) (by kernel_rfl) (by simp) ?_
            refine AllReadyH.cons (o := ⟨some 42, _, _, _, _, _⟩) rfl (fun K' hK => ?_) (AllReadyH.cons (o := ⟨some 10, _, _, _, _, _⟩) rfl (fun K' hK => ?_) AllReadyH.nil)
            · skip
              go_simp
              go_at_call 81
              refine (HG1.out _).mono ?_
              rintro e_ w_37 ⟨rfl, hb_37⟩
              replace HR := hide (HR.out.below hb_37)
              replace HS := hide (HS.out.below hb_37)
              replace HA := hide (HA.out.below hb_37)
              replace HB := hide (HB.out.trans (hb_37.mono HB.out.size))
              clear hb_37
              go_wp2_with fail
              refine hK.out _ _ ⟨HS.out.c2.1, HS.out.c2.2.1⟩ (fun hHeld => ?_)
              clear hK K'
              try simp only [Act.put, List.setIfInBounds_toArray, List.set_cons_zero, List.set_cons_succ]
              refine wpAnyH_ready (rs := [7]) (by kernel_rfl) (by simp) ?_
              refine AllReadyH.cons (o := ⟨some 10, _, _, _, _, _⟩) rfl (fun K' hK => ?_) AllReadyH.nil
              go_simp
              obtain ⟨gb, hgb⟩ : ∃ q, w_37.heap.size = q := ⟨_, rfl⟩
              have ne_HR_gb := Nat.ne_of_lt HR.out.lt
              rw [hgb] at ne_HR_gb
              have ne_HS_gb := Nat.ne_of_lt HS.out.lt
              rw [hgb] at ne_HS_gb
              have ne_HA_gb := Nat.ne_of_lt HA.out.lt
              rw [hgb] at ne_HA_gb
              have le_gb : w.heap.size ≤ gb := by rw [← hgb]; exact HB.out.size
              obtain ⟨w_38, hw_38⟩ : ∃ q : World, q = w_37.alloc (.cells #[.int .i64 0, .int .i64 0] 53) := ⟨_, rfl⟩
              try rw [← hw_38]
              have HB2 := hide (show Box w_38 gb 53 #[.int .i64 0, .int .i64 0] by rw [hw_38]; exact Box.made hgb.symm)
              have hc_38 : Below w_37.heap.size w_37 w_38 := by rw [hw_38]; exact (Below.refl _ _).alloc (Nat.le_refl _) _
              clear hw_38
              replace HR := hide (HR.out.below hc_38)
              replace HS := hide (HS.out.below hc_38)
              replace HA := hide (HA.out.below hc_38)
              replace HB := hide (HB.out.trans (hc_38.mono HB.out.size))
              clear hc_38
              try simp only [hgb]
              clear hgb
              refine hK.out _ _ ⟨HS.out.c2.1, HS.out.c2.2.1⟩ (fun hHeld => ?_)
              clear hK K'
              try simp only [Act.put, List.setIfInBounds_toArray, List.set_cons_zero, List.set_cons_succ]
              refine wpAnyH_ready (rs := [8]) (by kernel_rfl) (by simp) ?_
              refine AllReadyH.cons (o := ⟨none, _, _, _, _, _⟩) rfl (fun K' hK => ?_) AllReadyH.nil
              obtain ⟨x0, x1, f0, f1, hlx⟩ := HA.out.c2
              go_simp
              clear x0 x1 f0 f1 hlx
              replace HR := hide ((HR.out.other (p := ⟨ga, 0, none⟩) ne_HR_ga (.int .i64 s0)).other (p := ⟨ga, 1, none⟩) ne_HR_ga (.int .i64 s2))
              replace HS := hide ((HS.out.other (p := ⟨ga, 0, none⟩) ne_HS_ga (.int .i64 s0)).other (p := ⟨ga, 1, none⟩) ne_HS_ga (.int .i64 s2))
              replace HA := hide (HA.out.put2 (.int .i64 s0) (.int .i64 s2))
              replace HB2 := hide ((HB2.out.other (p := ⟨ga, 0, none⟩) (Ne.symm ne_HA_gb) (.int .i64 s0)).other (p := ⟨ga, 1, none⟩) (Ne.symm ne_HA_gb) (.int .i64 s2))
              replace HB := hide ((HB.out.setCell (p := ⟨ga, 0, none⟩) le_ga (.int .i64 s0)).setCell (p := ⟨ga, 1, none⟩) le_ga (.int .i64 s2))
              obtain ⟨w_39, hw_39⟩ : ∃ q : World, (w_38.setCell ⟨ga, 0, none⟩ (.int .i64 s0)).setCell ⟨ga, 1, none⟩ (.int .i64 s2) = q := ⟨_, rfl⟩
              rw [hw_39] at HR HS HA HB2 HB ⊢
              clear hw_39
              refine hK.out _ _ ⟨HS.out.c2.1, HS.out.c2.2.1⟩ (fun hHeld => ?_)
              clear hK K'
              try simp only [Act.put, List.setIfInBounds_toArray, List.set_cons_zero, List.set_cons_succ]
              refine wpAnyH_ready (rs := [9]) (by kernel_rfl) (by simp) ?_
              refine AllReadyH.cons (o := ⟨none, _, _, _, _, _⟩) rfl (fun K' hK => ?_) AllReadyH.nil
              obtain ⟨x0, x1, f0, f1, hlx⟩ := HB2.out.c2
              go_simp
              clear x0 x1 f0 f1 hlx
              replace HR := hide ((HR.out.other (p := ⟨gb, 0, none⟩) ne_HR_gb (.int .i64 s1)).other (p := ⟨gb, 1, none⟩) ne_HR_gb (.int .i64 s3))
              replace HS := hide ((HS.out.other (p := ⟨gb, 0, none⟩) ne_HS_gb (.int .i64 s1)).other (p := ⟨gb, 1, none⟩) ne_HS_gb (.int .i64 s3))
              replace HA := hide ((HA.out.other (p := ⟨gb, 0, none⟩) ne_HA_gb (.int .i64 s1)).other (p := ⟨gb, 1, none⟩) ne_HA_gb (.int .i64 s3))
              replace HB2 := hide (HB2.out.put2 (.int .i64 s1) (.int .i64 s3))
              replace HB := hide ((HB.out.setCell (p := ⟨gb, 0, none⟩) le_gb (.int .i64 s1)).setCell (p := ⟨gb, 1, none⟩) le_gb (.int .i64 s3))
              obtain ⟨w_40, hw_40⟩ : ∃ q : World, (w_39.setCell ⟨gb, 0, none⟩ (.int .i64 s1)).setCell ⟨gb, 1, none⟩ (.int .i64 s3) = q := ⟨_, rfl⟩
              rw [hw_40] at HR HS HA HB2 HB ⊢
              clear hw_40
              refine hK.out _ _ ⟨HS.out.c2.1, HS.out.c2.2.1⟩ (fun hHeld => ?_)
              clear hK K'
              try simp only [Act.put, List.setIfInBounds_toArray, List.set_cons_zero, List.set_cons_succ]
              refine wpAnyH_done (by kernel_rfl) ?_ _
              go_wp2_with fail
              go_meet
              case rel => exact ⟨ga, gb, rfl, rfl, HA, HB2, HR, HB⟩
            · skip
              go_simp
              obtain ⟨gb, hgb⟩ : ∃ q, w_36.heap.size = q := ⟨_, rfl⟩
              have ne_HR_gb := Nat.ne_of_lt HR.out.lt
              rw [hgb] at ne_HR_gb
              have ne_HS_gb := Nat.ne_of_lt HS.out.lt
              rw [hgb] at ne_HS_gb
              have ne_HA_gb := Nat.ne_of_lt HA.out.lt
              rw [hgb] at ne_HA_gb
              have le_gb : w.heap.size ≤ gb := by rw [← hgb]; exact HB.out.size
              obtain ⟨w_41, hw_41⟩ : ∃ q : World, q = w_36.alloc (.cells #[.int .i64 0, .int .i64 0] 53) := ⟨_, rfl⟩
              try rw [← hw_41]
              have HB2 := hide (show Box w_41 gb 53 #[.int .i64 0, .int .i64 0] by rw [hw_41]; exact Box.made hgb.symm)
              have hc_41 : Below w_36.heap.size w_36 w_41 := by rw [hw_41]; exact (Below.refl _ _).alloc (Nat.le_refl _) _
              clear hw_41
              replace HR := hide (HR.out.below hc_41)
              replace HS := hide (HS.out.below hc_41)
              replace HA := hide (HA.out.below hc_41)
              replace HB := hide (HB.out.trans (hc_41.mono HB.out.size))
              clear hc_41
              try simp only [hgb]
              clear hgb
              refine hK.out _ _ ⟨HS.out.c2.1, HS.out.c2.2.1⟩ (fun hHeld => ?_)
              clear hK K'
              try simp only [Act.put, List.setIfInBounds_toArray, List.set_cons_zero, List.set_cons_succ]
              refine wpAnyH_ready (rs := [5]) (by kernel_rfl) (by simp) ?_
              refine AllReadyH.cons (o := ⟨some 42, _, _, _, _, _⟩) rfl (fun K' hK => ?_) AllReadyH.nil
              go_simp
              go_at_call 81
              refine (HG1.out _).mono ?_
              rintro e_ w_42 ⟨rfl, hb_42⟩
              replace HR := hide (HR.out.below hb_42)
              replace HS := hide (HS.out.below hb_42)
              replace HA := hide (HA.out.below hb_42)
              replace HB2 := hide (HB2.out.below hb_42)
              replace HB := hide (HB.out.trans (hb_42.mono HB.out.size))
              clear hb_42
              go_wp2_with fail
              refine hK.out _ _ ⟨HS.out.c2.1, HS.out.c2.2.1⟩ (fun hHeld => ?_)
              clear hK K'
              try simp only [Act.put, List.setIfInBounds_toArray, List.set_cons_zero, List.set_cons_succ]
              refine wpAnyH_ready (rs := [8]) (by kernel_rfl) (by simp) ?_
              refine AllReadyH.cons (o := ⟨none, _, _, _, _, _⟩) rfl (fun K' hK => ?_) AllReadyH.nil
              obtain ⟨x0, x1, f0, f1, hlx⟩ := HA.out.c2
              go_simp
              clear x0 x1 f0 f1 hlx
              replace HR := hide ((HR.out.other (p := ⟨ga, 0, none⟩) ne_HR_ga (.int .i64 s0)).other (p := ⟨ga, 1, none⟩) ne_HR_ga (.int .i64 s2))
              replace HS := hide ((HS.out.other (p := ⟨ga, 0, none⟩) ne_HS_ga (.int .i64 s0)).other (p := ⟨ga, 1, none⟩) ne_HS_ga (.int .i64 s2))
              replace HA := hide (HA.out.put2 (.int .i64 s0) (.int .i64 s2))
              replace HB2 := hide ((HB2.out.other (p := ⟨ga, 0, none⟩) (Ne.symm ne_HA_gb) (.int .i64 s0)).other (p := ⟨ga, 1, none⟩) (Ne.symm ne_HA_gb) (.int .i64 s2))
              replace HB := hide ((HB.out.setCell (p := ⟨ga, 0, none⟩) le_ga (.int .i64 s0)).setCell (p := ⟨ga, 1, none⟩) le_ga (.int .i64 s2))
              obtain ⟨w_43, hw_43⟩ : ∃ q : World, (w_42.setCell ⟨ga, 0, none⟩ (.int .i64 s0)).setCell ⟨ga, 1, none⟩ (.int .i64 s2) = q := ⟨_, rfl⟩
              rw [hw_43] at HR HS HA HB2 HB ⊢
              clear hw_43
              refine hK.out _ _ ⟨HS.out.c2.1, HS.out.c2.2.1⟩ (fun hHeld => ?_)
              clear hK K'
              try simp only [Act.put, List.setIfInBounds_toArray, List.set_cons_zero, List.set_cons_succ]
              refine wpAnyH_ready (rs := [9]) (by kernel_rfl) (by simp) ?_
              refine AllReadyH.cons (o := ⟨none, _, _, _, _, _⟩) rfl (fun K' hK => ?_) AllReadyH.nil
              obtain ⟨x0, x1, f0, f1, hlx⟩ := HB2.out.c2
              go_simp
              clear x0 x1 f0 f1 hlx
              replace HR := hide ((HR.out.other (p := ⟨gb, 0, none⟩) ne_HR_gb (.int .i64 s1)).other (p := ⟨gb, 1, none⟩) ne_HR_gb (.int .i64 s3))
              replace HS := hide ((HS.out.other (p := ⟨gb, 0, none⟩) ne_HS_gb (.int .i64 s1)).other (p := ⟨gb, 1, none⟩) ne_HS_gb (.int .i64 s3))
              replace HA := hide ((HA.out.other (p := ⟨gb, 0, none⟩) ne_HA_gb (.int .i64 s1)).other (p := ⟨gb, 1, none⟩) ne_HA_gb (.int .i64 s3))
              replace HB2 := hide (HB2.out.put2 (.int .i64 s1) (.int .i64 s3))
              replace HB := hide ((HB.out.setCell (p := ⟨gb, 0, none⟩) le_gb (.int .i64 s1)).setCell (p := ⟨gb, 1, none⟩) le_gb (.int .i64 s3))
              obtain ⟨w_44, hw_44⟩ : ∃ q : World, (w_43.setCell ⟨gb, 0, none⟩ (.int .i64 s1)).setCell ⟨gb, 1, none⟩ (.int .i64 s3) = q := ⟨_, rfl⟩
              rw [hw_44] at HR HS HA HB2 HB ⊢
              clear hw_44
              refine hK.out _ _ ⟨HS.out.c2.1, HS.out.c2.2.1⟩ (fun hHeld => ?_)
              clear hK K'
              try simp only [Act.put, List.setIfInBounds_toArray, List.set_cons_zero, List.set_cons_succ]
              refine wpAnyH_done (by kernel_rfl) ?_ _
              go_wp2_with fail
              go_meet
              case rel => exact ⟨ga, gb, rfl, rfl, HA, HB2, HR, HB⟩
          · skip
            go_simp
            obtain ⟨gb, hgb⟩ : ∃ q, w_35.heap.size = q := ⟨_, rfl⟩
            have ne_HR_gb := Nat.ne_of_lt HR.out.lt
            rw [hgb] at ne_HR_gb
            have ne_HS_gb := Nat.ne_of_lt HS.out.lt
            rw [hgb] at ne_HS_gb
            have ne_HA_gb := Nat.ne_of_lt HA.out.lt
            rw [hgb] at ne_HA_gb
            have le_gb : w.heap.size ≤ gb := by rw [← hgb]; exact HB.out.size
            obtain ⟨w_45, hw_45⟩ : ∃ q : World, q = w_35.alloc (.cells #[.int .i64 0, .int .i64 0] 53) := ⟨_, rfl⟩
            try rw [← hw_45]
            have HB2 := hide (show Box w_45 gb 53 #[.int .i64 0, .int .i64 0] by rw [hw_45]; exact Box.made hgb.symm)
            have hc_45 : Below w_35.heap.size w_35 w_45 := by rw [hw_45]; exact (Below.refl _ _).alloc (Nat.le_refl _) _
            clear hw_45
            replace HR := hide (HR.out.below hc_45)
            replace HS := hide (HS.out.below hc_45)
            replace HA := hide (HA.out.below hc_45)
            replace HB := hide (HB.out.trans (hc_45.mono HB.out.size))
            clear hc_45
            try simp only [hgb]
            clear hgb
            refine hK.out _ _ ⟨HS.out.c2.1, HS.out.c2.2.1⟩ (fun hHeld => ?_)
            clear hK K'
            try simp only [Act.put, List.setIfInBounds_toArray, List.set_cons_zero, List.set_cons_succ]
            refine wpAnyH_ready (rs := [2]) (by kernel_rfl) (by simp) ?_
            refine AllReadyH.cons (o := ⟨some 39, _, _, _, _, _⟩) rfl (fun K' hK => ?_) AllReadyH.nil
            go_simp
            go_at_call 81
            refine (HG0.out _).mono ?_
            rintro e_ w_46 ⟨rfl, hb_46⟩
            replace HR := hide (HR.out.below hb_46)
            replace HS := hide (HS.out.below hb_46)
            replace HA := hide (HA.out.below hb_46)
            replace HB2 := hide (HB2.out.below hb_46)
            replace HB := hide (HB.out.trans (hb_46.mono HB.out.size))
            clear hb_46
            go_wp2_with fail
            refine hK.out _ _ ⟨HS.out.c2.1, HS.out.c2.2.1⟩ (fun hHeld => ?_)
            clear hK K'
            try simp only [Act.put, List.setIfInBounds_toArray, List.set_cons_zero, List.set_cons_succ]
            refine wpAnyH_ready (rs := [5]) (by kernel_rfl) (by simp) ?_
            refine AllReadyH.cons (o := ⟨some 42, _, _, _, _, _⟩) rfl (fun K' hK => ?_) AllReadyH.nil
            go_simp
            go_at_call 81
            refine (HG1.out _).mono ?_
            rintro e_ w_47 ⟨rfl, hb_47⟩
            replace HR := hide (HR.out.below hb_47)
            replace HS := hide (HS.out.below hb_47)
            replace HA := hide (HA.out.below hb_47)
            replace HB2 := hide (HB2.out.below hb_47)
            replace HB := hide (HB.out.trans (hb_47.mono HB.out.size))
            clear hb_47
            go_wp2_with fail
            refine hK.out _ _ ⟨HS.out.c2.1, HS.out.c2.2.1⟩ (fun hHeld => ?_)
            clear hK K'
            try simp only [Act.put, List.setIfInBounds_toArray, List.set_cons_zero, List.set_cons_succ]
            refine wpAnyH_ready (rs := [8]) (by kernel_rfl) (by simp) ?_
            refine AllReadyH.cons (o := ⟨none, _, _, _, _, _⟩) rfl (fun K' hK => ?_) AllReadyH.nil
            obtain ⟨x0, x1, f0, f1, hlx⟩ := HA.out.c2
            go_simp
            clear x0 x1 f0 f1 hlx
            replace HR := hide ((HR.out.other (p := ⟨ga, 0, none⟩) ne_HR_ga (.int .i64 s0)).other (p := ⟨ga, 1, none⟩) ne_HR_ga (.int .i64 s2))
            replace HS := hide ((HS.out.other (p := ⟨ga, 0, none⟩) ne_HS_ga (.int .i64 s0)).other (p := ⟨ga, 1, none⟩) ne_HS_ga (.int .i64 s2))
            replace HA := hide (HA.out.put2 (.int .i64 s0) (.int .i64 s2))
            replace HB2 := hide ((HB2.out.other (p := ⟨ga, 0, none⟩) (Ne.symm ne_HA_gb) (.int .i64 s0)).other (p := ⟨ga, 1, none⟩) (Ne.symm ne_HA_gb) (.int .i64 s2))
            replace HB := hide ((HB.out.setCell (p := ⟨ga, 0, none⟩) le_ga (.int .i64 s0)).setCell (p := ⟨ga, 1, none⟩) le_ga (.int .i64 s2))
            obtain ⟨w_48, hw_48⟩ : ∃ q : World, (w_47.setCell ⟨ga, 0, none⟩ (.int .i64 s0)).setCell ⟨ga, 1, none⟩ (.int .i64 s2) = q := ⟨_, rfl⟩
            rw [hw_48] at HR HS HA HB2 HB ⊢
            clear hw_48
            refine hK.out _ _ ⟨HS.out.c2.1, HS.out.c2.2.1⟩ (fun hHeld => ?_)
            clear hK K'
            try simp only [Act.put, List.setIfInBounds_toArray, List.set_cons_zero, List.set_cons_succ]
            refine wpAnyH_ready (rs := [9]) (by kernel_rfl) (by simp) ?_
            refine AllReadyH.cons (o := ⟨none, _, _, _, _, _⟩) rfl (fun K' hK => ?_) AllReadyH.nil
            obtain ⟨x0, x1, f0, f1, hlx⟩ := HB2.out.c2
            go_simp
            clear x0 x1 f0 f1 hlx
            replace HR := hide ((HR.out.other (p := ⟨gb, 0, none⟩) ne_HR_gb (.int .i64 s1)).other (p := ⟨gb, 1, none⟩) ne_HR_gb (.int .i64 s3))
            replace HS := hide ((HS.out.other (p := ⟨gb, 0, none⟩) ne_HS_gb (.int .i64 s1)).other (p := ⟨gb, 1, none⟩) ne_HS_gb (.int .i64 s3))
            replace HA := hide ((HA.out.other (p := ⟨gb, 0, none⟩) ne_HA_gb (.int .i64 s1)).other (p := ⟨gb, 1, none⟩) ne_HA_gb (.int .i64 s3))
            replace HB2 := hide (HB2.out.put2 (.int .i64 s1) (.int .i64 s3))
            replace HB := hide ((HB.out.setCell (p := ⟨gb, 0, none⟩) le_gb (.int .i64 s1)).setCell (p := ⟨gb, 1, none⟩) le_gb (.int .i64 s3))
            obtain ⟨w_49, hw_49⟩ : ∃ q : World, (w_48.setCell ⟨gb, 0, none⟩ (.int .i64 s1)).setCell ⟨gb, 1, none⟩ (.int .i64 s3) = q := ⟨_, rfl⟩
            rw [hw_49] at HR HS HA HB2 HB ⊢
            clear hw_49
            refine hK.out _ _ ⟨HS.out.c2.1, HS.out.c2.2.1⟩ (fun hHeld => ?_)
            clear hK K'
            try simp only [Act.put, List.setIfInBounds_toArray, List.set_cons_zero, List.set_cons_succ]
            refine wpAnyH_done (by kernel_rfl) ?_ _
            go_wp2_with fail
            go_meet
            case rel => exact ⟨ga, gb, rfl, rfl, HA, HB2, HR, HB⟩
        · skip
          go_simp
          obtain ⟨gb, hgb⟩ : ∃ q, w_6.heap.size = q := ⟨_, rfl⟩
          have ne_HR_gb := Nat.ne_of_lt HR.out.lt
          rw [hgb] at ne_HR_gb
          have ne_HS_gb := Nat.ne_of_lt HS.out.lt
          rw [hgb] at ne_HS_gb
          have le_gb : w.heap.size ≤ gb := by rw [← hgb]; exact HB.out.size
          obtain ⟨w_50, hw_50⟩ : ∃ q : World, q = w_6.alloc (.cells #[.int .i64 0, .int .i64 0] 53) := ⟨_, rfl⟩
          try rw [← hw_50]
          have HB2 := hide (show Box w_50 gb 53 #[.int .i64 0, .int .i64 0] by rw [hw_50]; exact Box.made hgb.symm)
          have hc_50 : Below w_6.heap.size w_6 w_50 := by rw [hw_50]; exact (Below.refl _ _).alloc (Nat.le_refl _) _
          clear hw_50
          replace HR := hide (HR.out.below hc_50)
          replace HS := hide (HS.out.below hc_50)
          replace HB := hide (HB.out.trans (hc_50.mono HB.out.size))
          clear hc_50
          try simp only [hgb]
          clear hgb
          refine hK.out _ _ ⟨HS.out.c2.1, HS.out.c2.2.1⟩ (fun hHeld => ?_)
          clear hK K'
          try simp only [Act.put, List.setIfInBounds_toArray, List.set_cons_zero, List.set_cons_succ]
          refine wpAnyH_ready (rs := [2, 6]) (by kernel_rfl) (by simp) ?_
          refine AllReadyH.cons (o := ⟨some 39, _, _, _, _, _⟩) rfl (fun K' hK => ?_) (AllReadyH.cons (o := ⟨some 9, _, _, _, _, _⟩) rfl (fun K' hK => ?_) AllReadyH.nil)
          · skip
            go_simp
            go_at_call 81
            refine (HG0.out _).mono ?_
            rintro e_ w_51 ⟨rfl, hb_51⟩
            replace HR := hide (HR.out.below hb_51)
            replace HS := hide (HS.out.below hb_51)
            replace HB2 := hide (HB2.out.below hb_51)
            replace HB := hide (HB.out.trans (hb_51.mono HB.out.size))
            clear hb_51
            go_wp2_with fail
            refine hK.out _ _ ⟨HS.out.c2.1, HS.out.c2.2.1⟩ (fun hHeld => ?_)
            clear hK K'
            try simp only [Act.put, List.setIfInBounds_toArray, List.set_cons_zero, List.set_cons_succ]
            refine wpAnyH_ready (rs := [5, 6]) (by kernel_rfl) (by simp) ?_
            refine AllReadyH.cons (o := ⟨some 42, _, _, _, _, _⟩) rfl (fun K' hK => ?_) (AllReadyH.cons (o := ⟨some 9, _, _, _, _, _⟩) rfl (fun K' hK => ?_) AllReadyH.nil)
            · skip
              go_simp
              go_at_call 81
              refine (HG1.out _).mono ?_
              rintro e_ w_52 ⟨rfl, hb_52⟩
              replace HR := hide (HR.out.below hb_52)
              replace HS := hide (HS.out.below hb_52)
              replace HB2 := hide (HB2.out.below hb_52)
              replace HB := hide (HB.out.trans (hb_52.mono HB.out.size))
              clear hb_52
              go_wp2_with fail
              refine hK.out _ _ ⟨HS.out.c2.1, HS.out.c2.2.1⟩ (fun hHeld => ?_)
              clear hK K'
              try simp only [Act.put, List.setIfInBounds_toArray, List.set_cons_zero, List.set_cons_succ]
              refine wpAnyH_ready (rs := [6]) (by kernel_rfl) (by simp) ?_
              refine AllReadyH.cons (o := ⟨some 9, _, _, _, _, _⟩) rfl (fun K' hK => ?_) AllReadyH.nil
              go_simp
              obtain ⟨ga, hga⟩ : ∃ q, w_52.heap.size = q := ⟨_, rfl⟩
              have ne_HR_ga := Nat.ne_of_lt HR.out.lt
              rw [hga] at ne_HR_ga
              have ne_HS_ga := Nat.ne_of_lt HS.out.lt
              rw [hga] at ne_HS_ga
              have ne_HB2_ga := Nat.ne_of_lt HB2.out.lt
              rw [hga] at ne_HB2_ga
              have le_ga : w.heap.size ≤ ga := by rw [← hga]; exact HB.out.size
              obtain ⟨w_53, hw_53⟩ : ∃ q : World, q = w_52.alloc (.cells #[.int .i64 0, .int .i64 0] 53) := ⟨_, rfl⟩
              try rw [← hw_53]
              have HA := hide (show Box w_53 ga 53 #[.int .i64 0, .int .i64 0] by rw [hw_53]; exact Box.made hga.symm)
              have hc_53 : Below w_52.heap.size w_52 w_53 := by rw [hw_53]; exact (Below.refl _ _).alloc (Nat.le_refl _) _
              clear hw_53
              replace HR := hide (HR.out.below hc_53)
              replace HS := hide (HS.out.below hc_53)
              replace HB2 := hide (HB2.out.below hc_53)
              replace HB := hide (HB.out.trans (hc_53.mono HB.out.size))
              clear hc_53
              try simp only [hga]
              clear hga
              refine hK.out _ _ ⟨HS.out.c2.1, HS.out.c2.2.1⟩ (fun hHeld => ?_)
              clear hK K'
              try simp only [Act.put, List.setIfInBounds_toArray, List.set_cons_zero, List.set_cons_succ]
              refine wpAnyH_ready (rs := [8]) (by kernel_rfl) (by simp) ?_
              refine AllReadyH.cons (o := ⟨none, _, _, _, _, _⟩) rfl (fun K' hK => ?_) AllReadyH.nil
              obtain ⟨x0, x1, f0, f1, hlx⟩ := HA.out.c2
              go_simp
              clear x0 x1 f0 f1 hlx
              replace HR := hide ((HR.out.other (p := ⟨ga, 0, none⟩) ne_HR_ga (.int .i64 s0)).other (p := ⟨ga, 1, none⟩) ne_HR_ga (.int .i64 s2))
              replace HS := hide ((HS.out.other (p := ⟨ga, 0, none⟩) ne_HS_ga (.int .i64 s0)).other (p := ⟨ga, 1, none⟩) ne_HS_ga (.int .i64 s2))
              replace HB2 := hide ((HB2.out.other (p := ⟨ga, 0, none⟩) ne_HB2_ga (.int .i64 s0)).other (p := ⟨ga, 1, none⟩) ne_HB2_ga (.int .i64 s2))
              replace HA := hide (HA.out.put2 (.int .i64 s0) (.int .i64 s2))
              replace HB := hide ((HB.out.setCell (p := ⟨ga, 0, none⟩) le_ga (.int .i64 s0)).setCell (p := ⟨ga, 1, none⟩) le_ga (.int .i64 s2))
              obtain ⟨w_54, hw_54⟩ : ∃ q : World, (w_53.setCell ⟨ga, 0, none⟩ (.int .i64 s0)).setCell ⟨ga, 1, none⟩ (.int .i64 s2) = q := ⟨_, rfl⟩
              rw [hw_54] at HR HS HB2 HA HB ⊢
              clear hw_54
              refine hK.out _ _ ⟨HS.out.c2.1, HS.out.c2.2.1⟩ (fun hHeld => ?_)
              clear hK K'
              try simp only [Act.put, List.setIfInBounds_toArray, List.set_cons_zero, List.set_cons_succ]
              refine wpAnyH_ready (rs := [9]) (by kernel_rfl) (by simp) ?_
              refine AllReadyH.cons (o := ⟨none, _, _, _, _, _⟩) rfl (fun K' hK => ?_) AllReadyH.nil
              obtain ⟨x0, x1, f0, f1, hlx⟩ := HB2.out.c2
              go_simp
              clear x0 x1 f0 f1 hlx
              replace HR := hide ((HR.out.other (p := ⟨gb, 0, none⟩) ne_HR_gb (.int .i64 s1)).other (p := ⟨gb, 1, none⟩) ne_HR_gb (.int .i64 s3))
              replace HS := hide ((HS.out.other (p := ⟨gb, 0, none⟩) ne_HS_gb (.int .i64 s1)).other (p := ⟨gb, 1, none⟩) ne_HS_gb (.int .i64 s3))
              replace HB2 := hide (HB2.out.put2 (.int .i64 s1) (.int .i64 s3))
              replace HA := hide ((HA.out.other (p := ⟨gb, 0, none⟩) (Ne.symm ne_HB2_ga) (.int .i64 s1)).other (p := ⟨gb, 1, none⟩) (Ne.symm ne_HB2_ga) (.int .i64 s3))
              replace HB := hide ((HB.out.setCell (p := ⟨gb, 0, none⟩) le_gb (.int .i64 s1)).setCell (p := ⟨gb, 1, none⟩) le_gb (.int .i64 s3))
              obtain ⟨w_55, hw_55⟩ : ∃ q : World, (w_54.setCell ⟨gb, 0, none⟩ (.int .i64 s1)).setCell ⟨gb, 1, none⟩ (.int .i64 s3) = q := ⟨_, rfl⟩
              rw [hw_55] at HR HS HB2 HA HB ⊢
              clear hw_55
              refine hK.out _ _ ⟨HS.out.c2.1, HS.out.c2.2.1⟩ (fun hHeld => ?_)
              clear hK K'
              try simp only [Act.put, List.setIfInBounds_toArray, List.set_cons_zero, List.set_cons_succ]
              refine wpAnyH_done (by kernel_rfl) ?_ _
              go_wp2_with fail
              go_meet
              case rel => exact ⟨ga, gb, rfl, rfl, HA, HB2, HR, HB⟩
            · skip
              go_simp
              obtain ⟨ga, hga⟩ : ∃ q, w_51.heap.size = q := ⟨_, rfl⟩
              have ne_HR_ga := Nat.ne_of_lt HR.out.lt
              rw [hga] at ne_HR_ga
              have ne_HS_ga := Nat.ne_of_lt HS.out.lt
              rw [hga] at ne_HS_ga
              have ne_HB2_ga := Nat.ne_of_lt HB2.out.lt
              rw [hga] at ne_HB2_ga
              have le_ga : w.heap.size ≤ ga := by rw [← hga]; exact HB.out.size
              obtain ⟨w_56, hw_56⟩ : ∃ q : World, q = w_51.alloc (.cells #[.int .i64 0, .int .i64 0] 53) := ⟨_, rfl⟩
              try rw [← hw_56]
              have HA := hide (show Box w_56 ga 53 #[.int .i64 0, .int .i64 0] by rw [hw_56]; exact Box.made hga.symm)
              have hc_56 : Below w_51.heap.size w_51 w_56 := by rw [hw_56]; exact (Below.refl _ _).alloc (Nat.le_refl _) _
              clear hw_56
              replace HR := hide (HR.out.below hc_56)
              replace HS := hide (HS.out.below hc_56)
              replace HB2 := hide (HB2.out.below hc_56)
              replace HB := hide (HB.out.trans (hc_56.mono HB.out.size))
              clear hc_56
              try simp only [hga]
              clear hga
              refine hK.out _ _ ⟨HS.out.c2.1, HS.out.c2.2.1⟩ (fun hHeld => ?_)
              clear hK K'
              try simp only [Act.put, List.setIfInBounds_toArray, List.set_cons_zero, List.set_cons_succ]
              refine wpAnyH_ready (rs := [5]) (by kernel_rfl) (by simp) ?_
              refine AllReadyH.cons (o := ⟨some 42, _, _, _, _, _⟩) rfl (fun K' hK => ?_) AllReadyH.nil
              go_simp
              go_at_call 81
              refine (HG1.out _).mono ?_
              rintro e_ w_57 ⟨rfl, hb_57⟩
              replace HR := hide (HR.out.below hb_57)
              replace HS := hide (HS.out.below hb_57)
              replace HB2 := hide (HB2.out.below hb_57)
              replace HA := hide (HA.out.below hb_57)
              replace HB := hide (HB.out.trans (hb_57.mono HB.out.size))
              clear hb_57
              go_wp2_with fail
              refine hK.out _ _ ⟨HS.out.c2.1, HS.out.c2.2.1⟩ (fun hHeld => ?_)
              clear hK K'
              try simp only [Act.put, List.setIfInBounds_toArray, List.set_cons_zero, List.set_cons_succ]
              refine wpAnyH_ready (rs := [8]) (by kernel_rfl) (by simp) ?_
              refine AllReadyH.cons (o := ⟨none, _, _, _, _, _⟩) rfl (fun K' hK => ?_) AllReadyH.nil
              obtain ⟨x0, x1, f0, f1, hlx⟩ := HA.out.c2
              go_simp
              clear x0 x1 f0 f1 hlx
              replace HR := hide ((HR.out.other (p := ⟨ga, 0, none⟩) ne_HR_ga (.int .i64 s0)).other (p := ⟨ga, 1, none⟩) ne_HR_ga (.int .i64 s2))
              replace HS := hide ((HS.out.other (p := ⟨ga, 0, none⟩) ne_HS_ga (.int .i64 s0)).other (p := ⟨ga, 1, none⟩) ne_HS_ga (.int .i64 s2))
              replace HB2 := hide ((HB2.out.other (p := ⟨ga, 0, none⟩) ne_HB2_ga (.int .i64 s0)).other (p := ⟨ga, 1, none⟩) ne_HB2_ga (.int .i64 s2))
              replace HA := hide (HA.out.put2 (.int .i64 s0) (.int .i64 s2))
              replace HB := hide ((HB.out.setCell (p := ⟨ga, 0, none⟩) le_ga (.int .i64 s0)).setCell (p := ⟨ga, 1, none⟩) le_ga (.int .i64 s2))
              obtain ⟨w_58, hw_58⟩ : ∃ q : World, (w_57.setCell ⟨ga, 0, none⟩ (.int .i64 s0)).setCell ⟨ga, 1, none⟩ (.int .i64 s2) = q := ⟨_, rfl⟩
              rw [hw_58] at HR HS HB2 HA HB ⊢
              clear hw_58
              refine hK.out _ _ ⟨HS.out.c2.1, HS.out.c2.2.1⟩ (fun hHeld => ?_)
              clear hK K'
              try simp only [Act.put, List.setIfInBounds_toArray, List.set_cons_zero, List.set_cons_succ]
              refine wpAnyH_ready (rs := [9]) (by kernel_rfl) (by simp) ?_
              refine AllReadyH.cons (o := ⟨none, _, _, _, _, _⟩) rfl (fun K' hK => ?_) AllReadyH.nil
              obtain ⟨x0, x1, f0, f1, hlx⟩ := HB2.out.c2
              go_simp
              clear x0 x1 f0 f1 hlx
              replace HR := hide ((HR.out.other (p := ⟨gb, 0, none⟩) ne_HR_gb (.int .i64 s1)).other (p := ⟨gb, 1, none⟩) ne_HR_gb (.int .i64 s3))
              replace HS := hide ((HS.out.other (p := ⟨gb, 0, none⟩) ne_HS_gb (.int .i64 s1)).other (p := ⟨gb, 1, none⟩) ne_HS_gb (.int .i64 s3))
              replace HB2 := hide (HB2.out.put2 (.int .i64 s1) (.int .i64 s3))
              replace HA := hide ((HA.out.other (p := ⟨gb, 0, none⟩) (Ne.symm ne_HB2_ga) (.int .i64 s1)).other (p := ⟨gb, 1, none⟩) (Ne.symm ne_HB2_ga) (.int .i64 s3))
              replace HB := hide ((HB.out.setCell (p := ⟨gb, 0, none⟩) le_gb (.int .i64 s1)).setCell (p := ⟨gb, 1, none⟩) le_gb (.int .i64 s3))
              obtain ⟨w_59, hw_59⟩ : ∃ q : World, (w_58.setCell ⟨gb, 0, none⟩ (.int .i64 s1)).setCell ⟨gb, 1, none⟩ (.int .i64 s3) = q := ⟨_, rfl⟩
              rw [hw_59] at HR HS HB2 HA HB ⊢
              clear hw_59
              refine hK.out _ _ ⟨HS.out.c2.1, HS.out.c2.2.1⟩ (fun hHeld => ?_)
              clear hK K'
              try simp only [Act.put, List.setIfInBounds_toArray, List.set_cons_zero, List.set_cons_succ]
              refine wpAnyH_done (by kernel_rfl) ?_ _
              go_wp2_with fail
              go_meet
              case rel => exact ⟨ga, gb, rfl, rfl, HA, HB2, HR, HB⟩
          · skip
            go_simp
            obtain ⟨ga, hga⟩ : ∃ q, w_50.heap.size = q := ⟨_, rfl⟩
            have ne_HR_ga := Nat.ne_of_lt HR.out.lt
            rw [hga] at ne_HR_ga
            have ne_HS_ga := Nat.ne_of_lt HS.out.lt
            rw [hga] at ne_HS_ga
            have ne_HB2_ga := Nat.ne_of_lt HB2.out.lt
            rw [hga] at ne_HB2_ga
            have le_ga : w.heap.size ≤ ga := by rw [← hga]; exact HB.out.size
            obtain ⟨w_60, hw_60⟩ : ∃ q : World, q = w_50.alloc (.cells #[.int .i64 0, .int .i64 0] 53) := ⟨_, rfl⟩
            try rw [← hw_60]
            have HA := hide (show Box w_60 ga 53 #[.int .i64 0, .int .i64 0] by rw [hw_60]; exact Box.made hga.symm)
            have hc_60 : Below w_50.heap.size w_50 w_60 := by rw [hw_60]; exact (Below.refl _ _).alloc (Nat.le_refl _) _
            clear hw_60
            replace HR := hide (HR.out.below hc_60)
            replace HS := hide (HS.out.below hc_60)
            replace HB2 := hide (HB2.out.below hc_60)
            replace HB := hide (HB.out.trans (hc_60.mono HB.out.size))
            clear hc_60
            try simp only [hga]
            clear hga
            refine hK.out _ _ ⟨HS.out.c2.1, HS.out.c2.2.1⟩ (fun hHeld => ?_)
            clear hK K'
            try simp only [Act.put, List.setIfInBounds_toArray, List.set_cons_zero, List.set_cons_succ]
            refine wpAnyH_ready (rs := [2]) (by kernel_rfl) (by simp) ?_
            refine AllReadyH.cons (o := ⟨some 39, _, _, _, _, _⟩) rfl (fun K' hK => ?_) AllReadyH.nil
            go_simp
            go_at_call 81
            refine (HG0.out _).mono ?_
            rintro e_ w_61 ⟨rfl, hb_61⟩
            replace HR := hide (HR.out.below hb_61)
            replace HS := hide (HS.out.below hb_61)
            replace HB2 := hide (HB2.out.below hb_61)
            replace HA := hide (HA.out.below hb_61)
            replace HB := hide (HB.out.trans (hb_61.mono HB.out.size))
            clear hb_61
            go_wp2_with fail
            refine hK.out _ _ ⟨HS.out.c2.1, HS.out.c2.2.1⟩ (fun hHeld => ?_)
            clear hK K'
            try simp only [Act.put, List.setIfInBounds_toArray, List.set_cons_zero, List.set_cons_succ]
            refine wpAnyH_ready (rs := [5]) (by kernel_rfl) (by simp) ?_
            refine AllReadyH.cons (o := ⟨some 42, _, _, _, _, _⟩) rfl (fun K' hK => ?_) AllReadyH.nil
            go_simp
            go_at_call 81
            refine (HG1.out _).mono ?_
            rintro e_ w_62 ⟨rfl, hb_62⟩
            replace HR := hide (HR.out.below hb_62)
            replace HS := hide (HS.out.below hb_62)
            replace HB2 := hide (HB2.out.below hb_62)
            replace HA := hide (HA.out.below hb_62)
            replace HB := hide (HB.out.trans (hb_62.mono HB.out.size))
            clear hb_62
            go_wp2_with fail
            refine hK.out _ _ ⟨HS.out.c2.1, HS.out.c2.2.1⟩ (fun hHeld => ?_)
            clear hK K'
            try simp only [Act.put, List.setIfInBounds_toArray, List.set_cons_zero, List.set_cons_succ]
            refine wpAnyH_ready (rs := [8]) (by kernel_rfl) (by simp) ?_
            refine AllReadyH.cons (o := ⟨none, _, _, _, _, _⟩) rfl (fun K' hK => ?_) AllReadyH.nil
            obtain ⟨x0, x1, f0, f1, hlx⟩ := HA.out.c2
            go_simp
            clear x0 x1 f0 f1 hlx
            replace HR := hide ((HR.out.other (p := ⟨ga, 0, none⟩) ne_HR_ga (.int .i64 s0)).other (p := ⟨ga, 1, none⟩) ne_HR_ga (.int .i64 s2))
            replace HS := hide ((HS.out.other (p := ⟨ga, 0, none⟩) ne_HS_ga (.int .i64 s0)).other (p := ⟨ga, 1, none⟩) ne_HS_ga (.int .i64 s2))
            replace HB2 := hide ((HB2.out.other (p := ⟨ga, 0, none⟩) ne_HB2_ga (.int .i64 s0)).other (p := ⟨ga, 1, none⟩) ne_HB2_ga (.int .i64 s2))
            replace HA := hide (HA.out.put2 (.int .i64 s0) (.int .i64 s2))
            replace HB := hide ((HB.out.setCell (p := ⟨ga, 0, none⟩) le_ga (.int .i64 s0)).setCell (p := ⟨ga, 1, none⟩) le_ga (.int .i64 s2))
            obtain ⟨w_63, hw_63⟩ : ∃ q : World, (w_62.setCell ⟨ga, 0, none⟩ (.int .i64 s0)).setCell ⟨ga, 1, none⟩ (.int .i64 s2) = q := ⟨_, rfl⟩
            rw [hw_63] at HR HS HB2 HA HB ⊢
            clear hw_63
            refine hK.out _ _ ⟨HS.out.c2.1, HS.out.c2.2.1⟩ (fun hHeld => ?_)
            clear hK K'
            try simp only [Act.put, List.setIfInBounds_toArray, List.set_cons_zero, List.set_cons_succ]
            refine wpAnyH_ready (rs := [9]) (by kernel_rfl) (by simp) ?_
            refine AllReadyH.cons (o := ⟨none, _, _, _, _, _⟩) rfl (fun K' hK => ?_) AllReadyH.nil
            obtain ⟨x0, x1, f0, f1, hlx⟩ := HB2.out.c2
            go_simp
            clear x0 x1 f0 f1 hlx
            replace HR := hide ((HR.out.other (p := ⟨gb, 0, none⟩) ne_HR_gb (.int .i64 s1)).other (p := ⟨gb, 1, none⟩) ne_HR_gb (.int .i64 s3))
            replace HS := hide ((HS.out.other (p := ⟨gb, 0, none⟩) ne_HS_gb (.int .i64 s1)).other (p := ⟨gb, 1, none⟩) ne_HS_gb (.int .i64 s3))
            replace HB2 := hide (HB2.out.put2 (.int .i64 s1) (.int .i64 s3))
            replace HA := hide ((HA.out.other (p := ⟨gb, 0, none⟩) (Ne.symm ne_HB2_ga) (.int .i64 s1)).other (p := ⟨gb, 1, none⟩) (Ne.symm ne_HB2_ga) (.int .i64 s3))
            replace HB := hide ((HB.out.setCell (p := ⟨gb, 0, none⟩) le_gb (.int .i64 s1)).setCell (p := ⟨gb, 1, none⟩) le_gb (.int .i64 s3))
            obtain ⟨w_64, hw_64⟩ : ∃ q : World, (w_63.setCell ⟨gb, 0, none⟩ (.int .i64 s1)).setCell ⟨gb, 1, none⟩ (.int .i64 s3) = q := ⟨_, rfl⟩
            rw [hw_64] at HR HS HB2 HA HB ⊢
            clear hw_64
            refine hK.out _ _ ⟨HS.out.c2.1, HS.out.c2.2.1⟩ (fun hHeld => ?_)
            clear hK K'
            try simp only [Act.put, List.setIfInBounds_toArray, List.set_cons_zero, List.set_cons_succ]
            refine wpAnyH_done (by kernel_rfl) ?_ _
            go_wp2_with fail
            go_meet
            case rel => exact ⟨ga, gb, rfl, rfl, HA, HB2, HR, HB⟩
      case rest =>
        clear HR HS HB HG0 HG1
        obtain ⟨ga, gb, rfl, rfl, HA, HB2, HR, HB⟩ := hcut
        obtain ⟨wZ, rfl⟩ : ∃ x : World, x = wc := ⟨_, rfl⟩
        obtain ⟨x0, x1, -, -, hlx⟩ := HA.out.c2
        obtain ⟨z0, z1, -, -, hlz⟩ := HB2.out.c2
        obtain ⟨y0, y1, y2, y3, g0, g1, g2, g3, hly⟩ := HR.out.cells4
        have HBX := hide (HR.out.put4 (.int .i64 s0) (.int .i64 s1) (.int .i64 s2) (.int .i64 s3)).cells4
        have HBL := hide (Below.put4 HB.out (Nat.le_refl _) (.int .i64 s0) (.int .i64 s1) (.int .i64 s2) (.int .i64 s3))
        clear HA HB2 HR HB
        go_wp2_with fail
        clear y0 y1 y2 y3 x0 x1 z0 z1
        obtain ⟨y0, y1, y2, y3, -⟩ := HBX.out
        refine bodyPost_ret (v := .agg #[.int .i64 s0, .int .i64 s1, .int .i64 s2, .int .i64 s3]) ?_ rfl ⟨by obtain ⟨e0, e1, e2, e3⟩ := HE4.out; rw [e0, e1, e2, e3], HBL.out⟩
        simp [results, Try.results118, go_sem, y0, y1, y2, y3]
end Go.Proofs.Ytdkbjgnkehoplaa
