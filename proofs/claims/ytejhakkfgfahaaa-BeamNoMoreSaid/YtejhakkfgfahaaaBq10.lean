/- Lemmas: E13, Wd, Wh, Wj, Wl, Ua, E24. -/
import Derived.Shelf.Abstract
import Derived.Test.YtejhakkfgfahaaaBq02
import Derived.Test.YtejhakkfgfahaaaBq08
import Derived.Test.YtejhakkfgfahaaaBq09
set_option linter.unusedVariables false
set_option linter.unusedSimpArgs false
/- The awake of the laws of beams. -/
namespace Go.Proofs.Ytejhakkfgfahaaa
open Go.RowKit Go.Great
theorem Box.ints {w : World} {b n : Nat} {t : TypeId} {cs : Array Value} (h : Box w b t cs) (F : Nat → Int) (hF : ∀ j, j < n → cs[j]? = some (.int .i64 (F j))) : IntsAt w 0 (some ⟨b, 0, none⟩) n F :=
  fun j hj => ⟨b, 0, rfl, Nat.zero_le _, h.lt, by rw [Nat.zero_add, h.at_ j]; exact hF j hj⟩
def awG : Nat → Int := listF [0, 7, 6, 5]
def awW : Nat → Int := listF [2, 9, 5]
def awS : Nat → Int := listF [2, 5, 4]
theorem ints4 {w : World} {b : Nat} {t : TypeId} {x0 x1 x2 x3 : Int} (h : Box w b t #[.int .i64 x0, .int .i64 x1, .int .i64 x2, .int .i64 x3]) : IntsAt w 0 (some ⟨b, 0, none⟩) 4 (listF [x0, x1, x2, x3]) := h.ints _ fun j hj => by
  have : j = 0 ∨ j = 1 ∨ j = 2 ∨ j = 3 := by omega
  rcases this with rfl | rfl | rfl | rfl <;> rfl
theorem ints3 {w : World} {b : Nat} {t : TypeId} {x0 x1 x2 : Int} (h : Box w b t #[.int .i64 x0, .int .i64 x1, .int .i64 x2]) : IntsAt w 0 (some ⟨b, 0, none⟩) 3 (listF [x0, x1, x2]) := h.ints _ fun j hj => by
  have : j = 0 ∨ j = 1 ∨ j = 2 := by omega
  rcases this with rfl | rfl | rfl <;> rfl
set_option maxRecDepth 100000 in
theorem awDoc1 : steE 4 1 = 0 ∧ gnE 4 awG 2 = 0 ∧ gnP 4 awG 2 = 4 ∧ gnQ 4 awG 2 = 2 ∧ stepE 5 = 0 ∧ waE 11 6 3 awW = 0 := by
  refine ⟨?_, ?_, ?_, ?_, ?_, ?_⟩ <;> kernel_rfl
set_option maxRecDepth 100000 in
theorem awDoc2 : intsB 4 (stF 1 1) 4 awG = true ∧ intsB 3 (spV 11 6 3 awW) 3 awS = true ∧ rfR 5 = 5 ∧ rfN 5 = 6 := by
  refine ⟨?_, ?_, ?_, ?_⟩ <;> kernel_rfl
set_option maxHeartbeats 8000000 in
set_option maxRecDepth 100000 in
theorem awake_any (w : World) :
    Calls Try.prog 11 #[] w fun e w' => e = .returned (.bool true) ∧ Below w.heap.size w w' := by
  obtain ⟨d1, d2, d3, d4, d5, d6⟩ := awDoc1
  obtain ⟨d7, d8, d9, d10⟩ := awDoc2
  have HGN := hide (fun (A : Option Addr) c W (h : IntsAt W 0 A 4 awG) => (show Calls Try.prog 22 #[.agg #[.slice A 4 c], .int .i64 2] W fun e w' => e = .returned (.tuple #[.agg #[.int .i64 4, .int .i64 2], .int .i64 0]) ∧ Below W.heap.size W w' by
    have := GainOf_any A 4 c awG 2 W (by decide) h
    rw [d2, d3, d4] at this
    exact this))
  have HRF := hide (fun W => (show Calls Try.prog 32 #[.int .i64 5] W fun e w' => ∃ v, e = .returned (.tuple #[v, .int .i64 5, .int .i64 0]) ∧ OwnLooks w' W.heap.size v 6 (rfF 5) (rfP 5) (rfQ 5) ∧ Below W.heap.size W w' by
    have := Refined_any 5 W
    rw [d5, d9, d10] at this
    exact this))
  have HSP := hide (fun (A : Option Addr) c W (h : IntsAt W 0 A 3 awW) => (show Calls Try.prog 37 #[.agg #[.int .i64 11, .int .i64 6], .slice A 3 c] W fun e w' => ∃ B d, e = .returned (.tuple #[.slice B 3 d, .int .i64 0]) ∧ 3 ≤ d ∧ d ≤ 12 ∧ IntsAt w' W.heap.size B 3 (spV 11 6 3 awW) ∧ Below W.heap.size W w' by
    refine (SplitOf_any 11 6 A 3 c awW W (by decide) h).mono ?_
    rintro e_ w_ ⟨B, m, d, rfl, h1, h2, h3, h4, h5⟩
    obtain rfl : m = 3 := h1.1 d6
    rw [d6]
    exact ⟨B, d, rfl, h2, h3, h4, h5⟩))
  have HI1 := hide (fun (A : Option Addr) (C : Option Addr) c d W (h : IntsAt W 0 A 4 (stF 1 1)) (k : IntsAt W 0 C 4 awG) => (show Calls Try.prog 19 #[.slice A 4 c, .slice C 4 d] W fun e w' => e = .returned (.bool true) ∧ ∃ q, w' = W.drewN q by
    have := ints_any A C 4 4 c d (stF 1 1) awG W (by decide) (by decide) h k
    rw [d7] at this
    exact this))
  have HI2 := hide (fun (A : Option Addr) (C : Option Addr) c d W (h : IntsAt W 0 A 3 (spV 11 6 3 awW)) (k : IntsAt W 0 C 3 awS) => (show Calls Try.prog 19 #[.slice A 3 c, .slice C 3 d] W fun e w' => e = .returned (.bool true) ∧ ∃ q, w' = W.drewN q by
    have := ints_any A C 3 3 c d (spV 11 6 3 awW) awS W (by decide) (by decide) h k
    rw [d8] at this
    exact this))
  clear d2 d3 d4 d5 d6 d7 d8 d9 d10
  go_enter Try.func11, Try.ntmps11
  go_wp2_with fail
  refine (Steering_any 4 1 _).mono ?_
  rintro e_ w_1 ⟨A, m, c, rfl, hm, hmc, hc8, hI, hb⟩
  obtain rfl : m = 4 := hm.1 d1
  rw [d1]
  have HI := hide hI
  have HB := hide hb
  clear hm d1 hmc hI hb
  go_upto_region 2 with fail
  obtain ⟨g1, hg1⟩ : ∃ q, w_1.heap.size = q := ⟨_, rfl⟩
  obtain ⟨w_2, hw_2⟩ : ∃ q : World, q = w_1.alloc (.cells #[.slice A 4 c] 24) := ⟨_, rfl⟩
  try rw [← hw_2]
  have HX1 := hide (show Box w_2 g1 24 #[.slice A 4 c] by rw [hw_2]; exact Box.made hg1.symm)
  have hc_2 : Below w_1.heap.size w_1 w_2 := by rw [hw_2]; exact (Below.refl _ _).alloc (Nat.le_refl _) _
  clear hw_2
  replace HI := hide (HI.out.below hc_2)
  replace HB := hide (HB.out.trans (hc_2.mono HB.out.size))
  clear hc_2
  try simp only [hg1]
  clear hg1
  go_wp2_with fail
  obtain ⟨g2, hg2⟩ : ∃ q, w_2.heap.size = q := ⟨_, rfl⟩
  obtain ⟨w_3, hw_3⟩ : ∃ q : World, q = w_2.alloc (.cells #[.int .i64 0, .int .i64 7, .int .i64 6, .int .i64 5] 3) := ⟨_, rfl⟩
  try rw [← hw_3]
  have HX2 := hide (show Box w_3 g2 3 #[.int .i64 0, .int .i64 7, .int .i64 6, .int .i64 5] by rw [hw_3]; exact Box.made hg2.symm)
  have hc_3 : Below w_2.heap.size w_2 w_3 := by rw [hw_3]; exact (Below.refl _ _).alloc (Nat.le_refl _) _
  clear hw_3
  replace HI := hide (HI.out.below hc_3)
  replace HX1 := hide (HX1.out.below hc_3)
  replace HB := hide (HB.out.trans (hc_3.mono HB.out.size))
  clear hc_3
  try simp only [hg2]
  clear hg2
  refine (HGN.out _ _ _ (ints4 HX2.out)).mono ?_
  rintro e_ w_4 ⟨rfl, hb_4⟩
  replace HI := hide (HI.out.below hb_4)
  replace HX1 := hide (HX1.out.below hb_4)
  replace HX2 := hide (HX2.out.below hb_4)
  replace HB := hide (HB.out.trans (hb_4.mono HB.out.size))
  clear hb_4
  clear HX2
  go_upto_region 3 with fail
  obtain ⟨g3, hg3⟩ : ∃ q, w_4.heap.size = q := ⟨_, rfl⟩
  obtain ⟨w_5, hw_5⟩ : ∃ q : World, q = w_4.alloc (.cells #[.int .i64 4, .int .i64 2] 45) := ⟨_, rfl⟩
  try rw [← hw_5]
  have HX3 := hide (show Box w_5 g3 45 #[.int .i64 4, .int .i64 2] by rw [hw_5]; exact Box.made hg3.symm)
  have hc_5 : Below w_4.heap.size w_4 w_5 := by rw [hw_5]; exact (Below.refl _ _).alloc (Nat.le_refl _) _
  clear hw_5
  replace HI := hide (HI.out.below hc_5)
  replace HX1 := hide (HX1.out.below hc_5)
  replace HB := hide (HB.out.trans (hc_5.mono HB.out.size))
  clear hc_5
  try simp only [hg3]
  clear hg3
  go_wp2_with fail
  refine (HRF.out _).mono ?_
  rintro e_ w_6 ⟨v, rfl, hl, hb_6⟩
  replace HI := hide (HI.out.below hb_6)
  replace HX1 := hide (HX1.out.below hb_6)
  replace HX3 := hide (HX3.out.below hb_6)
  replace HB := hide (HB.out.trans (hb_6.mono HB.out.size))
  clear hb_6
  have HL := hide hl
  clear hl
  go_wp2_with fail
  obtain ⟨g4, hg4⟩ : ∃ q, w_6.heap.size = q := ⟨_, rfl⟩
  obtain ⟨w_7, hw_7⟩ : ∃ q : World, q = w_6.alloc (.cells #[.int .i64 2, .int .i64 9, .int .i64 5] 3) := ⟨_, rfl⟩
  try rw [← hw_7]
  have HX4 := hide (show Box w_7 g4 3 #[.int .i64 2, .int .i64 9, .int .i64 5] by rw [hw_7]; exact Box.made hg4.symm)
  have hc_7 : Below w_6.heap.size w_6 w_7 := by rw [hw_7]; exact (Below.refl _ _).alloc (Nat.le_refl _) _
  clear hw_7
  replace HI := hide (HI.out.below hc_7)
  replace HX1 := hide (HX1.out.below hc_7)
  replace HX3 := hide (HX3.out.below hc_7)
  replace HL := hide (HL.out.below hc_7)
  replace HB := hide (HB.out.trans (hc_7.mono HB.out.size))
  clear hc_7
  try simp only [hg4]
  clear hg4
  refine (HSP.out _ _ _ (ints3 HX4.out)).mono ?_
  rintro e_ w_8 ⟨B, d, rfl, hd3, hd12, hS, hb_8⟩
  replace HI := hide (HI.out.below hb_8)
  replace HX1 := hide (HX1.out.below hb_8)
  replace HX3 := hide (HX3.out.below hb_8)
  replace HL := hide (HL.out.below hb_8)
  replace HX4 := hide (HX4.out.below hb_8)
  replace HB := hide (HB.out.trans (hb_8.mono HB.out.size))
  clear hb_8
  clear HX4
  have HS := hide (hS.weak (Nat.zero_le _))
  clear hS
  obtain ⟨C, cc, rfl, hcc, -, -⟩ := HL.out.form
  clear HL
  have x1 := HX1.out.at_ 0
  simp only [List.getElem?_toArray] at x1
  go_wp2_with fail
  clear x1
  obtain ⟨g5, hg5⟩ : ∃ q, w_8.heap.size = q := ⟨_, rfl⟩
  obtain ⟨w_9, hw_9⟩ : ∃ q : World, q = w_8.alloc (.cells #[.int .i64 0, .int .i64 7, .int .i64 6, .int .i64 5] 3) := ⟨_, rfl⟩
  try rw [← hw_9]
  have HX5 := hide (show Box w_9 g5 3 #[.int .i64 0, .int .i64 7, .int .i64 6, .int .i64 5] by rw [hw_9]; exact Box.made hg5.symm)
  have hc_9 : Below w_8.heap.size w_8 w_9 := by rw [hw_9]; exact (Below.refl _ _).alloc (Nat.le_refl _) _
  clear hw_9
  replace HI := hide (HI.out.below hc_9)
  replace HX1 := hide (HX1.out.below hc_9)
  replace HX3 := hide (HX3.out.below hc_9)
  replace HS := hide (HS.out.below hc_9)
  replace HB := hide (HB.out.trans (hc_9.mono HB.out.size))
  clear hc_9
  try simp only [hg5]
  clear hg5
  refine (HI1.out _ _ _ _ _ (HI.out.weak (Nat.zero_le _)) (ints4 HX5.out)).mono ?_
  rintro e_ v_10 ⟨rfl, q_10, rfl⟩
  obtain ⟨w_10, hw_10⟩ : ∃ z : World, z = w_9.drewN q_10 := ⟨_, rfl⟩
  rw [← hw_10]
  have hc_10 : Below w_9.heap.size w_9 w_10 := by rw [hw_10]; exact Go.below_drewN (Below.refl _ _) _
  clear hw_10
  replace HI := hide (HI.out.below hc_10)
  replace HX1 := hide (HX1.out.below hc_10)
  replace HX3 := hide (HX3.out.below hc_10)
  replace HS := hide (HS.out.below hc_10)
  replace HX5 := hide (HX5.out.below hc_10)
  replace HB := hide (HB.out.trans (hc_10.mono HB.out.size))
  clear hc_10
  clear HX5 HI
  have x3 := HX3.out.at_ 0
  have y3 := HX3.out.at_ 1
  simp only [List.getElem?_toArray] at x3 y3
  go_wp2_with fail
  clear x3 y3
  obtain ⟨g6, hg6⟩ : ∃ q, w_10.heap.size = q := ⟨_, rfl⟩
  obtain ⟨w_11, hw_11⟩ : ∃ q : World, q = w_10.alloc (.cells #[.int .i64 2, .int .i64 5, .int .i64 4] 3) := ⟨_, rfl⟩
  try rw [← hw_11]
  have HX6 := hide (show Box w_11 g6 3 #[.int .i64 2, .int .i64 5, .int .i64 4] by rw [hw_11]; exact Box.made hg6.symm)
  have hc_11 : Below w_10.heap.size w_10 w_11 := by rw [hw_11]; exact (Below.refl _ _).alloc (Nat.le_refl _) _
  clear hw_11
  replace HX1 := hide (HX1.out.below hc_11)
  replace HX3 := hide (HX3.out.below hc_11)
  replace HS := hide (HS.out.below hc_11)
  replace HB := hide (HB.out.trans (hc_11.mono HB.out.size))
  clear hc_11
  try simp only [hg6]
  clear hg6
  refine (HI2.out _ _ _ _ _ HS.out (ints3 HX6.out)).mono ?_
  rintro e_ v_12 ⟨rfl, q_12, rfl⟩
  obtain ⟨w_12, hw_12⟩ : ∃ z : World, z = w_11.drewN q_12 := ⟨_, rfl⟩
  rw [← hw_12]
  have hc_12 : Below w_11.heap.size w_11 w_12 := by rw [hw_12]; exact Go.below_drewN (Below.refl _ _) _
  clear hw_12
  replace HX1 := hide (HX1.out.below hc_12)
  replace HX3 := hide (HX3.out.below hc_12)
  replace HS := hide (HS.out.below hc_12)
  replace HX6 := hide (HX6.out.below hc_12)
  replace HB := hide (HB.out.trans (hc_12.mono HB.out.size))
  clear hc_12
  go_wp2_with fail
  go_ret
  exact ⟨rfl, HB.out⟩
end Go.Proofs.Ytejhakkfgfahaaa
/- partsError; numberWithin and its function; numberOf, conjugate, squareOf. -/
namespace Go.Proofs.Ytejhakkfgfahaaa
open Go.RowKit
end Go.Proofs.Ytejhakkfgfahaaa
/- firstWrong, itemsError of numbers; smallError, resultError. -/
namespace Go.Proofs.Ytejhakkfgfahaaa
open Go.RowKit
end Go.Proofs.Ytejhakkfgfahaaa
/- numberWithin, itemsError of numbers, smallError, resultError of the code. -/
namespace Go.Proofs.Ytejhakkfgfahaaa
open Go.RowKit
/-- The error of n numbers of size M at most. -/
def numsE (M : Int) (F : Nat → Num) (n : Nat) : Int := badE (fun j => (F j).err M) n
end Go.Proofs.Ytejhakkfgfahaaa
/- Turned of the code. -/
namespace Go.Proofs.Ytejhakkfgfahaaa
open Go.RowKit
/-- The first of two errors. -/
def twoE (a b : Int) : Int := if a = 0 then b else a
theorem firstE_two (a b : Int) : firstE [a, b] = twoE a b := by
  unfold twoE firstE
  by_cases h : a = 0
  · rw [if_pos h, if_pos h]
    unfold firstE
    by_cases h2 : b = 0
    · rw [if_pos h2, h2]; rfl
    · rw [if_neg h2]
  · rw [if_neg h, if_neg h]
def turnedE (x : Num) (n : Int) : Int := twoE (x.err 1000000000) (unI (withinB n 0 7) 2)
/-- What Turned hands back. -/
def turnedR (x : Num) (n : Int) : Num := if turnedE x n = 0 then x.turns (n % 8).toNat else Num.zero
theorem numsE_one (M : Int) (x : Num) : numsE M (fun _ => x) 1 = x.err M := by
  unfold numsE badE badE
  rw [if_pos rfl]
theorem err_within {M : Int} {x : Num} (h : x.err M = 0) : x.Within M := by
  unfold Num.err unI at h
  by_cases h1 : x.isIn M = true
  · exact Num.isIn_iff.1 h1
  · rw [if_neg h1] at h; exact absurd h (by decide)
theorem NumsAt.one {w : World} {b : Nat} {t : TypeId} {x : Num} (h : Box w b t #[.int .i64 x.a, .int .i64 x.b, .int .i64 x.c, .int .i64 x.d]) : NumsAt w 0 (some ⟨b, 0, none⟩) 1 (fun _ => x) := fun i hi => by
  obtain rfl : i = 0 := by omega
  obtain ⟨z0, z1, z2, z3, -⟩ := h.cells4
  exact ⟨b, 0, rfl, Nat.zero_le _, h.lt, by simpa using z0, by simpa using z1, by simpa using z2, by simpa using z3⟩
end Go.Proofs.Ytejhakkfgfahaaa
/- within, IsSmall, EighthsErr, Turn, Plus of the reference; Mod of the base. -/
namespace Go.Proofs.Ytejhakkfgfahaaa
open Go.RowKit
set_option maxHeartbeats 400000 in
theorem modN_any (n m : Int) (w : World) (h0 : 0 < m) (h1 : m ≤ 1000000000) :
    Calls Try.prog 53 #[.int .i64 n, .int .i64 m] w fun e w' => e = .returned (.int .i64 (n % m)) ∧ w = w' := by
  have hm0 : ¬ m = 0 := by omega
  by_cases hn : 0 ≤ n
  · have hb := Int.emod_nonneg n (show m ≠ 0 by omega)
    have hb2 := Int.emod_lt_of_pos n h0
    go_enter Try.func53, Try.ntmps53
    go_wp2_with fail
    go_ret
    exact ⟨rfl, rfl⟩
  · have hneg : n < 0 := by omega
    obtain ⟨r, hr⟩ : ∃ r, r = n.tmod m := ⟨_, rfl⟩
    have hr' := hr.symm
    have hle : -m < r ∧ r ≤ 0 := by
      rw [hr]
      have e := Int.neg_tmod (-n) m
      rw [Int.neg_neg] at e
      rw [e]
      have h2 : (-n).tmod m = (-n) % m := Int.tmod_eq_emod_of_nonneg (by omega)
      rw [h2]
      have := Int.emod_nonneg (-n) (show m ≠ 0 by omega)
      have := Int.emod_lt_of_pos (-n) h0
      omega
    have hdm : n % m = if r < 0 then r + m else r := by
      have h3 := Int.mul_tdiv_add_tmod n m
      rw [← hr] at h3
      split
      · have : n = (r + m) + m * (n.tdiv m - 1) := by rw [Int.mul_sub]; omega
        rw [this, Int.add_mul_emod_self_left]
        exact Int.emod_eq_of_lt (by omega) (by omega)
      · have h0r : r = 0 := by omega
        have : n = 0 + m * n.tdiv m := by omega
        rw [this, Int.add_mul_emod_self_left, h0r]
        rfl
    have HD := hide hdm
    obtain ⟨l1, l2⟩ := hle
    have hnn : ¬ 0 ≤ n := hn
    clear hdm hr hn
    by_cases hrz : r < 0
    · go_enter Try.func53, Try.ntmps53
      go_wp2_with fail
      go_ret
      exact ⟨ret_int (by rw [HD.out, if_pos hrz]), rfl⟩
    · have hr0 : 0 ≤ r := by omega
      have HRZ := hide hrz
      clear hrz
      go_enter Try.func53, Try.ntmps53
      go_wp2_with fail
      go_ret
      exact ⟨ret_int (by rw [HD.out, if_neg (Int.not_lt.2 HRZ.out)]), rfl⟩


theorem mod8 (n : Int) (w : World) : Calls Try.prog 53 #[.int .i64 n, .int .i64 8] w fun e w' => e = .returned (.int .i64 (n % 8)) ∧ w = w' := modN_any n 8 w (by decide) (by decide)
end Go.Proofs.Ytejhakkfgfahaaa
/- antennas, Copy, On, CheckBeam, BeamErr, StepErr and Steering of the reference. -/
namespace Go.Proofs.Ytejhakkfgfahaaa
open Go.RowKit Go.Great
set_option maxHeartbeats 2000000 in
theorem antennas_any (A : Option Addr) (n c : Nat) (w : World) :
    Calls Try.prog 12 #[.agg #[.slice A n c]] w fun e w' => e = .returned (.bool (decide ((n : Int) ≤ 10))) ∧ Below w.heap.size w w' := by
  go_enter Try.func12, Try.ntmps12
  go_upto_region 1 with fail
  obtain ⟨w_1, hw_1⟩ : ∃ q : World, q = (w.alloc (.cells #[.slice A n c] 24)) := ⟨_, rfl⟩
  try rw [← hw_1]
  have HX0 := hide (show Box w_1 (w.heap.size) 24 #[.slice A n c] by rw [hw_1]; exact Box.made rfl)
  have HB := hide (show Below w.heap.size w w_1 by rw [hw_1]; (repeat (first | (with_reducible exact Below.refl _ _) | (with_reducible refine Go.below_drewN ?_ _) | (with_reducible refine Below.drew ?_) | (with_reducible refine Below.alloc ?_ (by first | exact Nat.le_refl _ | (simp; done) | (simp; omega) | omega) _) | (with_reducible refine Below.setCell ?_ (by first | exact Nat.le_refl _ | (simp; done) | (simp; omega) | omega) _))))
  clear hw_1
  obtain ⟨x0, -, hlx⟩ := HX0.out.c1
  go_wp2_with fail
  go_ret
  exact ⟨rfl, HB.out⟩
set_option maxHeartbeats 2000000 in
theorem Copy_any (A : Option Addr) (n c : Nat) (F : Nat → Int) (w : World) (hn : n ≤ 100000) (hI : IntsAt w 0 A n F) :
    Calls Try.prog 14 #[.agg #[.slice A n c]] w fun e w' => ∃ B d, e = .returned (.agg #[.slice B n d]) ∧ n ≤ d ∧ d ≤ 9223372036854775807 ∧ IntsAt w' w.heap.size B n F ∧ Below w.heap.size w w' := by
  have HC := hide (fun W (h : IntsAt W 0 A n F) => copyInts_own A n c F W (by omega) h)
  have HI := hide hI
  clear hI
  go_enter Try.func14, Try.ntmps14
  go_upto_region 1 with fail
  obtain ⟨w_1, hw_1⟩ : ∃ q : World, q = ((w.alloc (.cells #[.slice A n c] 24)).alloc (.cells #[.slice none 0 0] 24)) := ⟨_, rfl⟩
  try rw [← hw_1]
  have HX0 := hide (show Box w_1 (w.heap.size) 24 #[.slice A n c] by rw [hw_1]; exact (Box.made rfl).alloc _)
  have HX1 := hide (show Box w_1 (w.heap.size + 1) 24 #[.slice none 0 0] by rw [hw_1]; exact Box.made (by simp))
  have HB := hide (show Below w.heap.size w w_1 by rw [hw_1]; (repeat (first | (with_reducible exact Below.refl _ _) | (with_reducible refine Go.below_drewN ?_ _) | (with_reducible refine Below.drew ?_) | (with_reducible refine Below.alloc ?_ (by first | exact Nat.le_refl _ | (simp; done) | (simp; omega) | omega) _) | (with_reducible refine Below.setCell ?_ (by first | exact Nat.le_refl _ | (simp; done) | (simp; omega) | omega) _))))
  clear hw_1
  obtain ⟨x0, -, hlx⟩ := HX0.out.c1
  go_wp2_with fail
  refine (HC.out _ (HI.out.below HB.out)).mono ?_
  rintro e_ w2 ⟨v, rfl, ho, hb⟩
  obtain ⟨B, d, rfl, hd, hi⟩ := ho.form
  have hcap := ho.cap_any
  have hlt0 := HX1.out.lt
  have HI2 := hide (hi.other (p := ⟨w.heap.size + 1, 0, none⟩) (by show w.heap.size + 1 < _; exact hlt0) (.slice B n d))
  have HX2 := hide ((HX1.out.below hb).put1 (.slice B n d))
  have f0 := (HX1.out.below hb).free 0
  have z0 := (HX1.out.below hb).at_ 0
  simp only [List.getElem?_toArray] at z0
  have HB2 := hide ((HB.out.trans (hb.mono HB.out.size)).setCell (p := ⟨w.heap.size + 1, 0, none⟩) (Nat.le_succ _) (.slice B n d))
  have hs2 := HB.out.size
  clear x0 hlx ho hb hi
  go_wp2_with fail
  have y0 := HX2.out.at_ 0
  simp only [List.getElem?_toArray] at y0
  refine bodyPost_ret (v := .agg #[.slice B n d]) ?_ rfl ⟨B, d, rfl, hcap.1, hcap.2, HI2.out.weak hs2, HB2.out⟩
  simp [results, Try.results14, go_sem, y0]
/-- How many antennas are on. -/
def onN (F : Nat → Int) : Nat → Nat
  | 0 => 0
  | k + 1 => if F k = -1 then onN F k else onN F k + 1
theorem onN_le (F : Nat → Int) : ∀ k, onN F k ≤ k
  | 0 => Nat.le_refl _
  | k + 1 => by
    have := onN_le F k
    unfold onN
    split <;> omega
set_option maxHeartbeats 4000000 in
set_option maxRecDepth 100000 in
theorem On_any (A : Option Addr) (n c : Nat) (F : Nat → Int) (w : World) (hn : n ≤ 100000) (hI : IntsAt w 0 A n F) :
    Calls Try.prog 28 #[.agg #[.slice A n c]] w fun e w' => e = .returned (.int .i64 (onN F n : Int)) ∧ Below w.heap.size w w' := by
  have HI := hide hI
  have HL := hide (onN_le F)
  clear hI
  go_enter Try.func28, Try.ntmps28
  go_upto_region 1 with fail
  obtain ⟨w_1, hw_1⟩ : ∃ q : World, q = (w.alloc (.cells #[.slice A n c] 24)) := ⟨_, rfl⟩
  try rw [← hw_1]
  have HX0 := hide (show Box w_1 (w.heap.size) 24 #[.slice A n c] by rw [hw_1]; exact Box.made rfl)
  have HB := hide (show Below w.heap.size w w_1 by rw [hw_1]; (repeat (first | (with_reducible exact Below.refl _ _) | (with_reducible refine Go.below_drewN ?_ _) | (with_reducible refine Below.drew ?_) | (with_reducible refine Below.alloc ?_ (by first | exact Nat.le_refl _ | (simp; done) | (simp; omega) | omega) _) | (with_reducible refine Below.setCell ?_ (by first | exact Nat.le_refl _ | (simp; done) | (simp; omega) | omega) _))))
  clear hw_1
  obtain ⟨x0, -, hlx⟩ := HX0.out.c1
  go_wp2_with fail
  go_loopw [3, 4] (fun s i wr => ∃ k : Nat, k ≤ n ∧ i = .int .i64 (k : Int) ∧ s = .int .i64 (onN F k : Int) ∧ wr = w_1) (fun _ i _ => n - (Go.RowKit.intOf i).toNat)
  case atStart => exact ⟨0, Nat.zero_le _, rfl, rfl, rfl⟩
  case round =>
    obtain ⟨k, hk, rfl, rfl, rfl⟩ := hrel
    by_cases hlt : k < n
    · have hltz : (k : Int) < (n : Int) := by omega
      obtain ⟨b, o, rfl, -, hb, hcell⟩ := (HI.out.below HB.out) k hlt
      have HS := hide (show onN F (k + 1) = if F k = -1 then onN F k else onN F k + 1 from rfl)
      have hle := HL.out k
      obtain ⟨f, hf⟩ : ∃ z, F k = z := ⟨_, rfl⟩
      rw [hf] at hcell HS
      obtain ⟨m, hm⟩ : ∃ z, onN F k = z := ⟨_, rfl⟩
      rw [hm] at hle HS
      simp only [hm]
      have q1 : IntKind.i64.wrap ((m : Int) + 1) = ((m + 1 : Nat) : Int) := by rw [show (m : Int) + 1 = ((m + 1 : Nat) : Int) by omega]; exact IntWalk.i64_in _ (by omega)
      clear hf hm
      by_cases h1 : f = -1
      · have t1 : (f != -1) = false := by simpa using h1
        have HV := hide (HS.out.trans (if_pos h1))
        clear HS h1
        go_wp2_with fail
        go_roundw
        case rel => exact ⟨k + 1, by omega, by go_num, by rw [HV.out], by first | rfl | trivial⟩
        case measure => simp [Go.RowKit.intOf]; omega
      · have t1 : (f != -1) = true := by simpa using h1
        have HV := hide (HS.out.trans (if_neg h1))
        clear HS h1
        go_wp2_with fail
        go_roundw
        case rel => exact ⟨k + 1, by omega, by go_num, by rw [HV.out]; first | rfl | go_num, by first | rfl | trivial⟩
        case measure => simp [Go.RowKit.intOf]; omega
    · obtain rfl : k = n := by omega
      go_wp2_with fail
      go_ret
      exact ⟨rfl, HB.out⟩
theorem onN_any {F : Nat → Int} : ∀ n, (anyN n fun j => onB (F j)) = decide (onN F n ≠ 0)
  | 0 => by simp [anyN, onN]
  | k + 1 => by
    have ih := onN_any (F := F) k
    have e : (anyN (k + 1) fun j => onB (F j)) = ((anyN k fun j => onB (F j)) || onB (F k)) := by
      simp [anyN, List.range_succ, List.any_append]
    rw [e, ih]
    unfold onB
    show _ = decide ((if F k = -1 then onN F k else onN F k + 1) ≠ 0)
    by_cases h : F k = -1
    · simp [h]
    · simp [h]
set_option maxHeartbeats 2000000 in
theorem StepErr_any (n : Int) (w : World) :
    Calls Try.prog 18 #[.int .i64 n] w fun e w' => e = .returned (.int .i64 (stepE n)) ∧ w = w' := by
  have HX := hide (fun W => within_any n 0 7 W)
  have HE := hide (show stepE n = unI (withinB n 0 7) 2 from rfl)
  rw [HE.out]
  generalize withinB n 0 7 = v at *
  cases v
  all_goals
    go_enter Try.func18, Try.ntmps18
    go_wp2_with (go_at_call 17; refine (HX.out _).mono ?_; rintro e w' ⟨rfl, rfl⟩)
    go_ret
    exact ⟨rfl, rfl⟩
set_option maxHeartbeats 4000000 in
set_option maxRecDepth 100000 in
theorem CheckBeam_ref (A : Option Addr) (n c : Nat) (F : Nat → Int) (w : World) (hn9 : n ≤ 9223372036854775807) (hI : IntsAt w 0 A n F) :
    Calls Try.prog 16 #[.agg #[.slice A n c]] w fun e w' => e = .returned (.tuple #[.int .i64 (cbI n F), .int .i64 (cbE n F)]) ∧ Below w.heap.size w w' := by
  have HE := hide (show cbE n F = if cbA n = 0 then (if phE F n = 0 then unI (anyN n fun j => onB (F j)) 11 else phE F n) else cbA n from rfl)
  have HN := hide (show cbI n F = if cbA n = 0 then (if phE F n = 0 then 0 else ((badI (fun j => inE (-1) 7 (F j)) n : Nat) : Int)) else 0 from rfl)
  have HAA := hide (show cbA n = if unI (decide (0 < n)) 10 = 0 then (if unI (decide ((n : Int) ≤ 8)) 8 = 0 then 0 else unI (decide ((n : Int) ≤ 8)) 8) else unI (decide (0 < n)) 10 from rfl)
  have HON := hide (onN_any (F := F) n)
  have HOL := hide (onN_le F n)
  have HCO := hide (fun W (k : n ≤ 8) (h : IntsAt W 0 A n F) => On_any A n c F W (by omega) h)
  have HPH := hide (show phE F n = badE (fun j => inE (-1) 7 (F j)) n from rfl)
  generalize cbE n F = V at *
  generalize cbI n F = R at *
  generalize cbA n = a at *
  generalize phE F n = p at *
  obtain ⟨m, hm⟩ : ∃ z, onN F n = z := ⟨_, rfl⟩
  rw [hm] at HON HOL
  simp only [hm] at HCO
  have HI := hide hI
  clear hI hm
  go_enter Try.func16, Try.ntmps16
  go_upto_region 1 with fail
  obtain ⟨w_1, hw_1⟩ : ∃ q : World, q = (w.alloc (.cells #[.slice A n c] 24)) := ⟨_, rfl⟩
  try rw [← hw_1]
  have HX0 := hide (show Box w_1 (w.heap.size) 24 #[.slice A n c] by rw [hw_1]; exact Box.made rfl)
  have HB := hide (show Below w.heap.size w w_1 by rw [hw_1]; (repeat (first | (with_reducible exact Below.refl _ _) | (with_reducible refine Go.below_drewN ?_ _) | (with_reducible refine Below.drew ?_) | (with_reducible refine Below.alloc ?_ (by first | exact Nat.le_refl _ | (simp; done) | (simp; omega) | omega) _) | (with_reducible refine Below.setCell ?_ (by first | exact Nat.le_refl _ | (simp; done) | (simp; omega) | omega) _))))
  clear hw_1
  obtain ⟨x0, -, hlx⟩ := HX0.out.c1
  by_cases h0 : n = 0
  · subst h0
    obtain rfl : a = 10 := HAA.out.trans rfl
    obtain rfl : V = 10 := HE.out.trans (if_neg (by decide))
    obtain rfl : R = 0 := HN.out.trans (if_neg (by decide))
    clear HE HN HAA HON HPH HOL HCO HI
    go_wp2_with fail
    go_ret2
    exact ⟨rfl, HB.out⟩
  have h0z : ¬ (n : Int) = 0 := by omega
  have t0 : ((n : Int) == 0) = false := by simp; omega
  by_cases h8 : n ≤ 8
  case neg =>
    have h8z : (8 : Int) < (n : Int) := by omega
    obtain rfl : a = 8 := HAA.out.trans (by rw [show decide (0 < n) = true by simp; omega, if_pos (show unI true 10 = 0 from rfl), show decide ((n : Int) ≤ 8) = false by simp; omega]; rfl)
    obtain rfl : V = 8 := HE.out.trans (if_neg (by decide))
    obtain rfl : R = 0 := HN.out.trans (if_neg (by decide))
    clear HE HN HAA HON HPH HOL HCO
    go_wp2_with fail
    go_ret2
    exact ⟨rfl, HB.out⟩
  have h8z : ¬ (8 : Int) < (n : Int) := by omega
  obtain rfl : a = 0 := HAA.out.trans (by rw [show decide (0 < n) = true by simp; omega, if_pos (show unI true 10 = 0 from rfl), show decide ((n : Int) ≤ 8) = true by simp; omega]; rfl)
  have HEE := hide (HE.out.trans (if_pos rfl))
  have HNN := hide (HN.out.trans (if_pos rfl))
  clear HE HN HAA
  go_wp2_with fail
  go_loopw [4] (fun i wr => ∃ k : Nat, k ≤ n ∧ i = .int .i64 (k : Int) ∧ Hid (badE (fun j => inE (-1) 7 (F j)) k = 0) ∧ wr = w_1) (fun i _ => n - (Go.RowKit.intOf i).toNat)
  case atStart => exact ⟨0, Nat.zero_le _, rfl, hide rfl, rfl⟩
  case round =>
    obtain ⟨k, hk, rfl, HK, rfl⟩ := hrel
    by_cases hlt : k < n
    · have hltz : (k : Int) < (n : Int) := by omega
      obtain ⟨b, o, rfl, -, hb, hcell⟩ := (HI.out.below HB.out) k hlt
      have HW := hide (fun W => within_any (F k) (-1) 7 W)
      obtain ⟨bb, hbb⟩ : ∃ z, withinB (F k) (-1) 7 = z := ⟨_, rfl⟩
      simp only [hbb] at HW
      have HBB := hide hbb
      clear hbb
      go_wp2_with fail
      refine (HW.out _).mono ?_
      rintro e_ v_ ⟨rfl, rfl⟩
      cases bb
      · have hbad : inE (-1) 7 (F k) = 2 := by unfold inE; rw [HBB.out]; rfl
        obtain rfl : p = 2 := by
          rw [HPH.out, badE_at HK.out (by show inE (-1) 7 (F k) ≠ 0; rw [hbad]; decide) n hlt]
          exact hbad
        obtain rfl : V = 2 := HEE.out.trans (if_neg (by decide))
        obtain rfl : R = (k : Int) := HNN.out.trans (by rw [if_neg (by decide), badI_at HK.out (by show inE (-1) 7 (F k) ≠ 0; rw [hbad]; decide) n hlt])
        clear HEE HNN HPH HON
        go_wp2_with fail
        go_ret2
        exact ⟨rfl, HB.out⟩
      · go_wp2_with fail
        go_roundw
        case rel => exact ⟨k + 1, by omega, by go_num, hide ((badE_succ HK.out).trans (by show inE (-1) 7 (F k) = 0; unfold inE; rw [HBB.out]; rfl)), by first | rfl | trivial⟩
        case measure => simp [Go.RowKit.intOf]; omega
    · obtain rfl : k = n := by omega
      obtain rfl : p = 0 := HPH.out.trans HK.out
      obtain rfl : R = 0 := HNN.out.trans (if_pos rfl)
      have HEF := hide (HEE.out.trans (if_pos rfl))
      clear HEE HNN HPH HK
      go_wp2_with fail
      refine (HCO.out _ h8 (HI.out.below HB.out)).mono ?_
      rintro e_ w2 ⟨rfl, hb2⟩
      have HB2 := hide (HB.out.trans (hb2.mono HB.out.size))
      clear hb2 HB
      by_cases hm : m = 0
      · subst hm
        obtain rfl : V = 11 := HEF.out.trans (by rw [HON.out]; rfl)
        go_wp2_with fail
        go_ret2
        exact ⟨rfl, HB2.out⟩
      · have hmz : ((m : Int) == 0) = false := by simp; omega
        obtain rfl : V = 0 := HEF.out.trans (by rw [HON.out, show decide (m ≠ 0) = true by simpa using hm]; rfl)
        clear hm HOL
        go_wp2_with fail
        go_ret2
        exact ⟨rfl, HB2.out⟩
set_option maxHeartbeats 4000000 in
set_option maxRecDepth 100000 in
theorem BeamErr_any (A : Option Addr) (n c : Nat) (F : Nat → Int) (w : World) (hn9 : n ≤ 9223372036854775807) (hI : IntsAt w 0 A n F) :
    Calls Try.prog 24 #[.agg #[.slice A n c]] w fun e w' => e = .returned (.int .i64 (cbE n F)) ∧ Below w.heap.size w w' := by
  have HC := hide (fun W (h : IntsAt W 0 A n F) => CheckBeam_ref A n c F W hn9 h)
  generalize cbE n F = V at *
  generalize cbI n F = R at *
  have HI := hide hI
  clear hI
  go_enter Try.func24, Try.ntmps24
  go_upto_region 1 with fail
  obtain ⟨w_1, hw_1⟩ : ∃ q : World, q = (w.alloc (.cells #[.slice A n c] 24)) := ⟨_, rfl⟩
  try rw [← hw_1]
  have HX0 := hide (show Box w_1 (w.heap.size) 24 #[.slice A n c] by rw [hw_1]; exact Box.made rfl)
  have HB := hide (show Below w.heap.size w w_1 by rw [hw_1]; (repeat (first | (with_reducible exact Below.refl _ _) | (with_reducible refine Go.below_drewN ?_ _) | (with_reducible refine Below.drew ?_) | (with_reducible refine Below.alloc ?_ (by first | exact Nat.le_refl _ | (simp; done) | (simp; omega) | omega) _) | (with_reducible refine Below.setCell ?_ (by first | exact Nat.le_refl _ | (simp; done) | (simp; omega) | omega) _))))
  clear hw_1
  obtain ⟨x0, -, hlx⟩ := HX0.out.c1
  go_wp2_with fail
  refine (HC.out _ (HI.out.below HB.out)).mono ?_
  rintro e_ w_2 ⟨rfl, hb_2⟩
  replace HX0 := hide (HX0.out.below hb_2)
  replace HB := hide (HB.out.trans (hb_2.mono HB.out.size))
  clear hb_2
  clear x0 hlx
  go_wp2_with fail
  go_ret
  exact ⟨rfl, HB.out⟩
end Go.Proofs.Ytejhakkfgfahaaa
