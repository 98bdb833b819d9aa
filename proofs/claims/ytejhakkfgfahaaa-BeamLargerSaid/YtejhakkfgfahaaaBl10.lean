/- Lemmas: E13, Wd, Wh, Wj, Wl, Bi, Ba, Bb, Bc. -/
import Derived.Shelf.Abstract
import Derived.BigQuiet
import Derived.Deep.QuietTactic
import Derived.Test.YtejhakkfgfahaaaBl02
import Derived.Test.YtejhakkfgfahaaaBl03
import Derived.Test.YtejhakkfgfahaaaBl06
import Derived.Test.YtejhakkfgfahaaaBl07
import Derived.Test.YtejhakkfgfahaaaBl08
import Derived.Test.YtejhakkfgfahaaaBl09
set_option linter.unusedVariables false
set_option linter.unusedSimpArgs false
/- The awake of the laws of beams. -/
namespace Go.Proofs.Ytejhakkfgfahaaa
open Go.RowKit Go.Great
theorem Box.ints {w : World} {b n : Nat} {t : TypeId} {cs : Array Value} (h : Box w b t cs) (F : Nat → Int) (hF : ∀ j, j < n → cs[j]? = some (.int .i64 (F j))) : IntsAt w 0 (some ⟨b, 0, none⟩) n F :=
  fun j hj => ⟨b, 0, rfl, Nat.zero_le _, h.lt, by rw [Nat.zero_add, h.at_ j]; exact hF j hj⟩
def awG : Nat → Int := listF [0, 7, 6, 5]
def awW : Nat → Int := listF [2, 9, 5]
def awS : Nat → Int := listF [2, 5, 4]
theorem ints4 {w : World} {b : Nat} {t : TypeId} {x0 x1 x2 x3 : Int} (h : Box w b t #[.int .i64 x0, .int .i64 x1, .int .i64 x2, .int .i64 x3]) : IntsAt w 0 (some ⟨b, 0, none⟩) 4 (listF [x0, x1, x2, x3]) := h.ints _ fun j hj => by
  have : j = 0 ∨ j = 1 ∨ j = 2 ∨ j = 3 := by omega
  rcases this with rfl | rfl | rfl | rfl <;> rfl
theorem ints3 {w : World} {b : Nat} {t : TypeId} {x0 x1 x2 : Int} (h : Box w b t #[.int .i64 x0, .int .i64 x1, .int .i64 x2]) : IntsAt w 0 (some ⟨b, 0, none⟩) 3 (listF [x0, x1, x2]) := h.ints _ fun j hj => by
  have : j = 0 ∨ j = 1 ∨ j = 2 := by omega
  rcases this with rfl | rfl | rfl <;> rfl
set_option maxRecDepth 100000 in
theorem awDoc1 : steE 4 1 = 0 ∧ gnE 4 awG 2 = 0 ∧ gnP 4 awG 2 = 4 ∧ gnQ 4 awG 2 = 2 ∧ stepE 5 = 0 ∧ waE 11 6 3 awW = 0 := by
  refine ⟨?_, ?_, ?_, ?_, ?_, ?_⟩ <;> kernel_rfl
set_option maxRecDepth 100000 in
theorem awDoc2 : intsB 4 (stF 1 1) 4 awG = true ∧ intsB 3 (spV 11 6 3 awW) 3 awS = true ∧ rfR 5 = 5 ∧ rfN 5 = 6 := by
  refine ⟨?_, ?_, ?_, ?_⟩ <;> kernel_rfl
set_option maxHeartbeats 8000000 in
set_option maxRecDepth 100000 in
theorem awake_any (w : World) :
    Calls Try.prog 11 #[] w fun e w' => e = .returned (.bool true) ∧ Below w.heap.size w w' := by
  obtain ⟨d1, d2, d3, d4, d5, d6⟩ := awDoc1
  obtain ⟨d7, d8, d9, d10⟩ := awDoc2
  have HGN := hide (fun (A : Option Addr) c W (h : IntsAt W 0 A 4 awG) => (show Calls Try.prog 22 #[.agg #[.slice A 4 c], .int .i64 2] W fun e w' => e = .returned (.tuple #[.agg #[.int .i64 4, .int .i64 2], .int .i64 0]) ∧ Below W.heap.size W w' by
    have := GainOf_any A 4 c awG 2 W (by decide) h
    rw [d2, d3, d4] at this
    exact this))
  have HRF := hide (fun W => (show Calls Try.prog 32 #[.int .i64 5] W fun e w' => ∃ v, e = .returned (.tuple #[v, .int .i64 5, .int .i64 0]) ∧ OwnLooks w' W.heap.size v 6 (rfF 5) (rfP 5) (rfQ 5) ∧ Below W.heap.size W w' by
    have := Refined_any 5 W
    rw [d5, d9, d10] at this
    exact this))
  have HSP := hide (fun (A : Option Addr) c W (h : IntsAt W 0 A 3 awW) => (show Calls Try.prog 37 #[.agg #[.int .i64 11, .int .i64 6], .slice A 3 c] W fun e w' => ∃ B d, e = .returned (.tuple #[.slice B 3 d, .int .i64 0]) ∧ 3 ≤ d ∧ d ≤ 12 ∧ IntsAt w' W.heap.size B 3 (spV 11 6 3 awW) ∧ Below W.heap.size W w' by
    refine (SplitOf_any 11 6 A 3 c awW W (by decide) h).mono ?_
    rintro e_ w_ ⟨B, m, d, rfl, h1, h2, h3, h4, h5⟩
    obtain rfl : m = 3 := h1.1 d6
    rw [d6]
    exact ⟨B, d, rfl, h2, h3, h4, h5⟩))
  have HI1 := hide (fun (A : Option Addr) (C : Option Addr) c d W (h : IntsAt W 0 A 4 (stF 1 1)) (k : IntsAt W 0 C 4 awG) => (show Calls Try.prog 19 #[.slice A 4 c, .slice C 4 d] W fun e w' => e = .returned (.bool true) ∧ ∃ q, w' = W.drewN q by
    have := ints_any A C 4 4 c d (stF 1 1) awG W (by decide) (by decide) h k
    rw [d7] at this
    exact this))
  have HI2 := hide (fun (A : Option Addr) (C : Option Addr) c d W (h : IntsAt W 0 A 3 (spV 11 6 3 awW)) (k : IntsAt W 0 C 3 awS) => (show Calls Try.prog 19 #[.slice A 3 c, .slice C 3 d] W fun e w' => e = .returned (.bool true) ∧ ∃ q, w' = W.drewN q by
    have := ints_any A C 3 3 c d (spV 11 6 3 awW) awS W (by decide) (by decide) h k
    rw [d8] at this
    exact this))
  clear d2 d3 d4 d5 d6 d7 d8 d9 d10
  go_enter Try.func11, Try.ntmps11
  go_wp2_with fail
  refine (Steering_any 4 1 _).mono ?_
  rintro e_ w_1 ⟨A, m, c, rfl, hm, hmc, hc8, hI, hb⟩
  obtain rfl : m = 4 := hm.1 d1
  rw [d1]
  have HI := hide hI
  have HB := hide hb
  clear hm d1 hmc hI hb
  go_upto_region 2 with fail
  obtain ⟨g1, hg1⟩ : ∃ q, w_1.heap.size = q := ⟨_, rfl⟩
  obtain ⟨w_2, hw_2⟩ : ∃ q : World, q = w_1.alloc (.cells #[.slice A 4 c] 24) := ⟨_, rfl⟩
  try rw [← hw_2]
  have HX1 := hide (show Box w_2 g1 24 #[.slice A 4 c] by rw [hw_2]; exact Box.made hg1.symm)
  have hc_2 : Below w_1.heap.size w_1 w_2 := by rw [hw_2]; exact (Below.refl _ _).alloc (Nat.le_refl _) _
  clear hw_2
  replace HI := hide (HI.out.below hc_2)
  replace HB := hide (HB.out.trans (hc_2.mono HB.out.size))
  clear hc_2
  try simp only [hg1]
  clear hg1
  go_wp2_with fail
  obtain ⟨g2, hg2⟩ : ∃ q, w_2.heap.size = q := ⟨_, rfl⟩
  obtain ⟨w_3, hw_3⟩ : ∃ q : World, q = w_2.alloc (.cells #[.int .i64 0, .int .i64 7, .int .i64 6, .int .i64 5] 3) := ⟨_, rfl⟩
  try rw [← hw_3]
  have HX2 := hide (show Box w_3 g2 3 #[.int .i64 0, .int .i64 7, .int .i64 6, .int .i64 5] by rw [hw_3]; exact Box.made hg2.symm)
  have hc_3 : Below w_2.heap.size w_2 w_3 := by rw [hw_3]; exact (Below.refl _ _).alloc (Nat.le_refl _) _
  clear hw_3
  replace HI := hide (HI.out.below hc_3)
  replace HX1 := hide (HX1.out.below hc_3)
  replace HB := hide (HB.out.trans (hc_3.mono HB.out.size))
  clear hc_3
  try simp only [hg2]
  clear hg2
  refine (HGN.out _ _ _ (ints4 HX2.out)).mono ?_
  rintro e_ w_4 ⟨rfl, hb_4⟩
  replace HI := hide (HI.out.below hb_4)
  replace HX1 := hide (HX1.out.below hb_4)
  replace HX2 := hide (HX2.out.below hb_4)
  replace HB := hide (HB.out.trans (hb_4.mono HB.out.size))
  clear hb_4
  clear HX2
  go_upto_region 3 with fail
  obtain ⟨g3, hg3⟩ : ∃ q, w_4.heap.size = q := ⟨_, rfl⟩
  obtain ⟨w_5, hw_5⟩ : ∃ q : World, q = w_4.alloc (.cells #[.int .i64 4, .int .i64 2] 45) := ⟨_, rfl⟩
  try rw [← hw_5]
  have HX3 := hide (show Box w_5 g3 45 #[.int .i64 4, .int .i64 2] by rw [hw_5]; exact Box.made hg3.symm)
  have hc_5 : Below w_4.heap.size w_4 w_5 := by rw [hw_5]; exact (Below.refl _ _).alloc (Nat.le_refl _) _
  clear hw_5
  replace HI := hide (HI.out.below hc_5)
  replace HX1 := hide (HX1.out.below hc_5)
  replace HB := hide (HB.out.trans (hc_5.mono HB.out.size))
  clear hc_5
  try simp only [hg3]
  clear hg3
  go_wp2_with fail
  refine (HRF.out _).mono ?_
  rintro e_ w_6 ⟨v, rfl, hl, hb_6⟩
  replace HI := hide (HI.out.below hb_6)
  replace HX1 := hide (HX1.out.below hb_6)
  replace HX3 := hide (HX3.out.below hb_6)
  replace HB := hide (HB.out.trans (hb_6.mono HB.out.size))
  clear hb_6
  have HL := hide hl
  clear hl
  go_wp2_with fail
  obtain ⟨g4, hg4⟩ : ∃ q, w_6.heap.size = q := ⟨_, rfl⟩
  obtain ⟨w_7, hw_7⟩ : ∃ q : World, q = w_6.alloc (.cells #[.int .i64 2, .int .i64 9, .int .i64 5] 3) := ⟨_, rfl⟩
  try rw [← hw_7]
  have HX4 := hide (show Box w_7 g4 3 #[.int .i64 2, .int .i64 9, .int .i64 5] by rw [hw_7]; exact Box.made hg4.symm)
  have hc_7 : Below w_6.heap.size w_6 w_7 := by rw [hw_7]; exact (Below.refl _ _).alloc (Nat.le_refl _) _
  clear hw_7
  replace HI := hide (HI.out.below hc_7)
  replace HX1 := hide (HX1.out.below hc_7)
  replace HX3 := hide (HX3.out.below hc_7)
  replace HL := hide (HL.out.below hc_7)
  replace HB := hide (HB.out.trans (hc_7.mono HB.out.size))
  clear hc_7
  try simp only [hg4]
  clear hg4
  refine (HSP.out _ _ _ (ints3 HX4.out)).mono ?_
  rintro e_ w_8 ⟨B, d, rfl, hd3, hd12, hS, hb_8⟩
  replace HI := hide (HI.out.below hb_8)
  replace HX1 := hide (HX1.out.below hb_8)
  replace HX3 := hide (HX3.out.below hb_8)
  replace HL := hide (HL.out.below hb_8)
  replace HX4 := hide (HX4.out.below hb_8)
  replace HB := hide (HB.out.trans (hb_8.mono HB.out.size))
  clear hb_8
  clear HX4
  have HS := hide (hS.weak (Nat.zero_le _))
  clear hS
  obtain ⟨C, cc, rfl, hcc, -, -⟩ := HL.out.form
  clear HL
  have x1 := HX1.out.at_ 0
  simp only [List.getElem?_toArray] at x1
  go_wp2_with fail
  clear x1
  obtain ⟨g5, hg5⟩ : ∃ q, w_8.heap.size = q := ⟨_, rfl⟩
  obtain ⟨w_9, hw_9⟩ : ∃ q : World, q = w_8.alloc (.cells #[.int .i64 0, .int .i64 7, .int .i64 6, .int .i64 5] 3) := ⟨_, rfl⟩
  try rw [← hw_9]
  have HX5 := hide (show Box w_9 g5 3 #[.int .i64 0, .int .i64 7, .int .i64 6, .int .i64 5] by rw [hw_9]; exact Box.made hg5.symm)
  have hc_9 : Below w_8.heap.size w_8 w_9 := by rw [hw_9]; exact (Below.refl _ _).alloc (Nat.le_refl _) _
  clear hw_9
  replace HI := hide (HI.out.below hc_9)
  replace HX1 := hide (HX1.out.below hc_9)
  replace HX3 := hide (HX3.out.below hc_9)
  replace HS := hide (HS.out.below hc_9)
  replace HB := hide (HB.out.trans (hc_9.mono HB.out.size))
  clear hc_9
  try simp only [hg5]
  clear hg5
  refine (HI1.out _ _ _ _ _ (HI.out.weak (Nat.zero_le _)) (ints4 HX5.out)).mono ?_
  rintro e_ v_10 ⟨rfl, q_10, rfl⟩
  obtain ⟨w_10, hw_10⟩ : ∃ z : World, z = w_9.drewN q_10 := ⟨_, rfl⟩
  rw [← hw_10]
  have hc_10 : Below w_9.heap.size w_9 w_10 := by rw [hw_10]; exact Go.below_drewN (Below.refl _ _) _
  clear hw_10
  replace HI := hide (HI.out.below hc_10)
  replace HX1 := hide (HX1.out.below hc_10)
  replace HX3 := hide (HX3.out.below hc_10)
  replace HS := hide (HS.out.below hc_10)
  replace HX5 := hide (HX5.out.below hc_10)
  replace HB := hide (HB.out.trans (hc_10.mono HB.out.size))
  clear hc_10
  clear HX5 HI
  have x3 := HX3.out.at_ 0
  have y3 := HX3.out.at_ 1
  simp only [List.getElem?_toArray] at x3 y3
  go_wp2_with fail
  clear x3 y3
  obtain ⟨g6, hg6⟩ : ∃ q, w_10.heap.size = q := ⟨_, rfl⟩
  obtain ⟨w_11, hw_11⟩ : ∃ q : World, q = w_10.alloc (.cells #[.int .i64 2, .int .i64 5, .int .i64 4] 3) := ⟨_, rfl⟩
  try rw [← hw_11]
  have HX6 := hide (show Box w_11 g6 3 #[.int .i64 2, .int .i64 5, .int .i64 4] by rw [hw_11]; exact Box.made hg6.symm)
  have hc_11 : Below w_10.heap.size w_10 w_11 := by rw [hw_11]; exact (Below.refl _ _).alloc (Nat.le_refl _) _
  clear hw_11
  replace HX1 := hide (HX1.out.below hc_11)
  replace HX3 := hide (HX3.out.below hc_11)
  replace HS := hide (HS.out.below hc_11)
  replace HB := hide (HB.out.trans (hc_11.mono HB.out.size))
  clear hc_11
  try simp only [hg6]
  clear hg6
  refine (HI2.out _ _ _ _ _ HS.out (ints3 HX6.out)).mono ?_
  rintro e_ v_12 ⟨rfl, q_12, rfl⟩
  obtain ⟨w_12, hw_12⟩ : ∃ z : World, z = w_11.drewN q_12 := ⟨_, rfl⟩
  rw [← hw_12]
  have hc_12 : Below w_11.heap.size w_11 w_12 := by rw [hw_12]; exact Go.below_drewN (Below.refl _ _) _
  clear hw_12
  replace HX1 := hide (HX1.out.below hc_12)
  replace HX3 := hide (HX3.out.below hc_12)
  replace HS := hide (HS.out.below hc_12)
  replace HX6 := hide (HX6.out.below hc_12)
  replace HB := hide (HB.out.trans (hc_12.mono HB.out.size))
  clear hc_12
  go_wp2_with fail
  go_ret
  exact ⟨rfl, HB.out⟩
end Go.Proofs.Ytejhakkfgfahaaa
/- partsError; numberWithin and its function; numberOf, conjugate, squareOf. -/
namespace Go.Proofs.Ytejhakkfgfahaaa
open Go.RowKit
end Go.Proofs.Ytejhakkfgfahaaa
/- firstWrong, itemsError of numbers; smallError, resultError. -/
namespace Go.Proofs.Ytejhakkfgfahaaa
open Go.RowKit
end Go.Proofs.Ytejhakkfgfahaaa
/- numberWithin, itemsError of numbers, smallError, resultError of the code. -/
namespace Go.Proofs.Ytejhakkfgfahaaa
open Go.RowKit
/-- The error of n numbers of size M at most. -/
def numsE (M : Int) (F : Nat → Num) (n : Nat) : Int := badE (fun j => (F j).err M) n
end Go.Proofs.Ytejhakkfgfahaaa
/- Turned of the code. -/
namespace Go.Proofs.Ytejhakkfgfahaaa
open Go.RowKit
/-- The first of two errors. -/
def twoE (a b : Int) : Int := if a = 0 then b else a
theorem firstE_two (a b : Int) : firstE [a, b] = twoE a b := by
  unfold twoE firstE
  by_cases h : a = 0
  · rw [if_pos h, if_pos h]
    unfold firstE
    by_cases h2 : b = 0
    · rw [if_pos h2, h2]; rfl
    · rw [if_neg h2]
  · rw [if_neg h, if_neg h]
def turnedE (x : Num) (n : Int) : Int := twoE (x.err 1000000000) (unI (withinB n 0 7) 2)
/-- What Turned hands back. -/
def turnedR (x : Num) (n : Int) : Num := if turnedE x n = 0 then x.turns (n % 8).toNat else Num.zero
theorem numsE_one (M : Int) (x : Num) : numsE M (fun _ => x) 1 = x.err M := by
  unfold numsE badE badE
  rw [if_pos rfl]
theorem err_within {M : Int} {x : Num} (h : x.err M = 0) : x.Within M := by
  unfold Num.err unI at h
  by_cases h1 : x.isIn M = true
  · exact Num.isIn_iff.1 h1
  · rw [if_neg h1] at h; exact absurd h (by decide)
theorem NumsAt.one {w : World} {b : Nat} {t : TypeId} {x : Num} (h : Box w b t #[.int .i64 x.a, .int .i64 x.b, .int .i64 x.c, .int .i64 x.d]) : NumsAt w 0 (some ⟨b, 0, none⟩) 1 (fun _ => x) := fun i hi => by
  obtain rfl : i = 0 := by omega
  obtain ⟨z0, z1, z2, z3, -⟩ := h.cells4
  exact ⟨b, 0, rfl, Nat.zero_le _, h.lt, by simpa using z0, by simpa using z1, by simpa using z2, by simpa using z3⟩
end Go.Proofs.Ytejhakkfgfahaaa
/- SquareOf and Compared of the code. -/
namespace Go.Proofs.Ytejhakkfgfahaaa
open Go.RowKit
def sqRP (x : Num) : Int := if x.err 1000000 = 0 then x.sqP else 0
def sqRQ (x : Num) : Int := if x.err 1000000 = 0 then x.sqQ else 0
/-- The error of two squares that are compared, and what Compared hands back. -/
def cmE (a b c d : Int) : Int := Num.err 10000000000000 ⟨a, b, c, d⟩
def cmR (a b c d : Int) : Int := if cmE a b c d = 0 then compI (a - c) (d - b) else 0
end Go.Proofs.Ytejhakkfgfahaaa
/- Numbers of any size (downtiltbase): mathematics of digits; trimmed, wideOf. -/
namespace Go.Proofs.Ytejhakkfgfahaaa
open Go.RowKit
def BB : Int := 1000000000
def valD (D : Nat → Int) : Nat → Int
  | 0 => 0
  | k + 1 => valD D k + D k * BB ^ k
def Dig (n : Nat) (D : Nat → Int) : Prop := ∀ j, j < n → 0 ≤ D j ∧ D j < BB
def Norm (n : Nat) (D : Nat → Int) : Prop := n = 0 ∨ D (n - 1) ≠ 0
def trimN (D : Nat → Int) : Nat → Nat
  | 0 => 0
  | k + 1 => if D k = 0 then trimN D k else k + 1
theorem pow_pos_BB (k : Nat) : 0 < BB ^ k := Int.pow_pos (by decide)
theorem valD_congr {D E : Nat → Int} : ∀ n, (∀ j, j < n → D j = E j) → valD D n = valD E n
  | 0, _ => rfl
  | k + 1, h => by
    show valD D k + D k * BB ^ k = valD E k + E k * BB ^ k
    rw [valD_congr k fun j hj => h j (by omega), h k (Nat.lt_succ_self k)]
theorem valD_range {D : Nat → Int} : ∀ n, Dig n D → 0 ≤ valD D n ∧ valD D n < BB ^ n
  | 0, _ => ⟨Int.le_refl _, (by decide : (0 : Int) < BB ^ 0)⟩
  | k + 1, h => by
    obtain ⟨h1, h2⟩ := valD_range k fun j hj => h j (by omega)
    obtain ⟨d0, d1⟩ := h k (Nat.lt_succ_self k)
    have hp := pow_pos_BB k
    show 0 ≤ valD D k + D k * BB ^ k ∧ valD D k + D k * BB ^ k < BB ^ (k + 1)
    rw [Int.pow_succ, Int.mul_comm (BB ^ k) BB]
    have a1 : 0 ≤ D k * BB ^ k := Int.mul_nonneg d0 (by omega)
    have a2 : (D k + 1) * BB ^ k ≤ BB * BB ^ k := Int.mul_le_mul_of_nonneg_right (by omega) (by omega)
    rw [Int.add_mul, Int.one_mul] at a2
    omega
theorem trimN_le (D : Nat → Int) : ∀ n, trimN D n ≤ n
  | 0 => Nat.le_refl _
  | k + 1 => by
    unfold trimN
    split
    · have := trimN_le D k; omega
    · exact Nat.le_refl _
theorem trimN_norm (D : Nat → Int) : ∀ n, Norm (trimN D n) D
  | 0 => .inl rfl
  | k + 1 => by
    unfold trimN
    split
    · exact trimN_norm D k
    · rename_i h; exact .inr (by simpa using h)
theorem trimN_val (D : Nat → Int) : ∀ n, valD D (trimN D n) = valD D n
  | 0 => rfl
  | k + 1 => by
    unfold trimN
    split
    · rename_i h
      rw [trimN_val D k]
      show valD D k = valD D k + D k * BB ^ k
      rw [h, Int.zero_mul, Int.add_zero]
    · rfl
theorem norm_ge {D : Nat → Int} {n : Nat} (hd : Dig (n + 1) D) (hn : Norm (n + 1) D) : BB ^ n ≤ valD D (n + 1) := by
  rcases hn with h | h
  · exact absurd h (Nat.succ_ne_zero n)
  · rw [Nat.add_sub_cancel] at h
    have h1 := (valD_range n fun j hj => hd j (by omega)).1
    obtain ⟨d0, -⟩ := hd n (Nat.lt_succ_self n)
    have hp := pow_pos_BB n
    show BB ^ n ≤ valD D n + D n * BB ^ n
    have a2 : 1 * BB ^ n ≤ D n * BB ^ n := Int.mul_le_mul_of_nonneg_right (by omega) (by omega)
    omega
theorem norm_pos {D : Nat → Int} {n : Nat} (hd : Dig n D) (hn : Norm n D) (h : 0 < n) : 0 < valD D n := by
  obtain ⟨k, rfl⟩ : ∃ k, n = k + 1 := ⟨n - 1, by omega⟩
  have := norm_ge hd hn
  have := pow_pos_BB k
  omega
theorem pow_mono_BB {a b : Nat} (h : a ≤ b) : BB ^ a ≤ BB ^ b := by
  obtain ⟨d, rfl⟩ : ∃ d, b = a + d := ⟨b - a, by omega⟩
  induction d with
  | zero => exact Int.le_refl _
  | succ d ih =>
    have := ih (by omega)
    rw [← Nat.add_assoc, Int.pow_succ]
    have hp := pow_pos_BB (a + d)
    have : BB ^ (a + d) * 1 ≤ BB ^ (a + d) * BB := Int.mul_le_mul_of_nonneg_left (by decide) (by omega)
    omega
theorem valD_fewer {D E : Nat → Int} {n m : Nat} (h : n < m) (hd : Dig n D) (he : Dig m E) (hn : Norm m E) : valD D n < valD E m := by
  obtain ⟨k, rfl⟩ : ∃ k, m = k + 1 := ⟨m - 1, by omega⟩
  have h1 := (valD_range n hd).2
  have h2 := norm_ge he hn
  have h3 := pow_mono_BB (show n ≤ k by omega)
  omega
theorem valD_less {D E : Nat → Int} {i : Nat} : ∀ {n : Nat}, Dig n D → Dig n E → i < n → D i < E i → (∀ j, i < j → j < n → D j = E j) → valD D n < valD E n
  | 0, _, _, h, _, _ => absurd h (Nat.not_lt_zero i)
  | k + 1, hd, he, hi, hl, hq => by
    show valD D k + D k * BB ^ k < valD E k + E k * BB ^ k
    have hp := pow_pos_BB k
    by_cases e : i = k
    · subst e
      have h1 := (valD_range i fun j hj => hd j (by omega)).2
      have h2 := (valD_range i fun j hj => he j (by omega)).1
      have a2 : (D i + 1) * BB ^ i ≤ E i * BB ^ i := Int.mul_le_mul_of_nonneg_right (by omega) (by omega)
      rw [Int.add_mul, Int.one_mul] at a2
      omega
    · have h1 := valD_less (D := D) (E := E) (i := i) (n := k) (fun j hj => hd j (by omega)) (fun j hj => he j (by omega)) (by omega) hl fun j h1 h2 => hq j h1 (by omega)
      rw [hq k (by omega) (Nat.lt_succ_self k)]
      omega
set_option maxHeartbeats 1000000 in
theorem trimmed_any (A : Option Addr) (n c : Nat) (D : Nat → Int) (w : World) (hn : n ≤ 1000) (hc : n ≤ c) (hI : IntsAt w 0 A n D) :
    Calls Try.prog 86 #[.slice A n c] w fun e w' => e = .returned (.slice A (trimN D n) c) ∧ w = w' := by
  have HI := hide hI
  clear hI
  go_enter Try.func86, Try.ntmps86
  go_wp2_with fail
  go_loopw [3] (fun x wr => ∃ k : Nat, k ≤ n ∧ x = .int .i64 (k : Int) ∧ Hid (trimN D k = trimN D n) ∧ w = wr) (fun x _ => (Go.RowKit.intOf x).toNat)
  case atStart => exact ⟨n, Nat.le_refl _, rfl, hide rfl, rfl⟩
  case round =>
    obtain ⟨k, hk, rfl, HT, rfl⟩ := hrel
    have hkc : (k : Int) ≤ (c : Int) := by omega
    rcases k with _ | j
    · go_wp2_with fail
      go_ret
      exact ⟨by rw [show trimN D n = 0 from HT.out.symm]; rfl, rfl⟩
    · have h0 : ((j + 1 : Nat) : Int) > 0 := by omega
      have q1 : IntKind.i64.wrap (((j + 1 : Nat) : Int) - 1) = (j : Int) := by have h := IntWalk.i64_in (((j + 1 : Nat) : Int) - 1) (by omega); rw [h]; first | done | omega
      have hjn : (j : Int) < (n : Int) := by omega
      obtain ⟨b, o, rfl, -, -, x0⟩ := HI.out j (by omega)
      by_cases hz : D j = 0
      · have HT2 := hide (show trimN D j = trimN D n from by rw [← HT.out]; show _ = if D j = 0 then trimN D j else j + 1; rw [if_pos hz])
        rw [hz] at x0
        clear hz HT
        go_wp2_with fail
        go_roundw
        case rel => exact ⟨j, by omega, by first | rfl | go_num, HT2, by first | rfl | trivial⟩
        case measure => (simp [Go.RowKit.intOf]; first | done | omega)
      · have HT2 := hide (show trimN D n = j + 1 from by rw [← HT.out]; show (if D j = 0 then trimN D j else j + 1) = _; rw [if_neg hz])
        have t1 : (D j == 0) = false := by simpa using hz
        generalize D j = x at *
        clear hz HT
        go_wp2_with fail
        go_ret
        exact ⟨by rw [HT2.out]; rfl, rfl⟩
end Go.Proofs.Ytejhakkfgfahaaa
/- Numbers of any size: wideOf, cmpDigits, digit, WideNeg. -/
namespace Go.Proofs.Ytejhakkfgfahaaa
open Go.RowKit
def sgnT (s : Int) (t : Nat) : Int := if t = 0 then 0 else s
set_option maxHeartbeats 1000000 in
theorem wideOf_any (s : Int) (A : Option Addr) (n c : Nat) (D : Nat → Int) (w : World) (hn : n ≤ 1000) (hc : n ≤ c) (hI : IntsAt w 0 A n D) :
    Calls Try.prog 79 #[.int .i64 s, .slice A n c] w fun e w' => e = .returned (.agg #[.int .i64 (sgnT s (trimN D n)), .slice A (trimN D n) c]) ∧ Below w.heap.size w w' := by
  have HT := hide (fun W (h : IntsAt W 0 A n D) => trimmed_any A n c D W hn hc h)
  have HI := hide hI
  have HS := hide (show sgnT s (trimN D n) = if trimN D n = 0 then 0 else s from rfl)
  have hl := trimN_le D n
  generalize trimN D n = t at *
  clear hI
  have ht9 : t ≤ 1000 := by omega
  by_cases h0 : t = 0
  · have HS2 := hide (HS.out.trans (if_pos h0))
    subst h0
    clear HS
    go_enter Try.func79, Try.ntmps79
    go_upto_region 1 with fail
    obtain ⟨W, hW⟩ : ∃ q : World, q = w.alloc (.cells #[.int .i64 0, .slice none 0 0] 93) := ⟨_, rfl⟩
    rw [← hW]
    have b0 : Box W w.heap.size 93 #[.int .i64 0, .slice none 0 0] := by rw [hW]; exact Box.made rfl
    have hB : Below w.heap.size w W := by rw [hW]; (repeat (first | (with_reducible exact Below.refl _ _) | (with_reducible refine Go.below_drewN ?_ _) | (with_reducible refine Below.drew ?_) | (with_reducible refine Below.alloc ?_ (by first | exact Nat.le_refl _ | (simp; done) | (simp; omega) | omega) _) | (with_reducible refine Below.setCell ?_ (by first | exact Nat.le_refl _ | (simp; done) | (simp; omega) | omega) _)))
    clear hW
    have h0 := b0.at_ 0
    have h1 := b0.at_ 1
    simp only [List.getElem?_toArray] at h0 h1
    have f0 := b0.free 0
    have f1 := b0.free 1
    have hlt := b0.lt
    have HC := hide ((b0.set_ 0 (.int .i64 0)).set_ 1 (.slice A 0 c))
    have HL := hide ((hB.setCell (p := ⟨w.heap.size, 0, none⟩) (Nat.le_refl _) (.int .i64 0)).setCell (p := ⟨w.heap.size, 1, none⟩) (Nat.le_refl _) (.slice A 0 c))
    have HIW := hide (HI.out.below hB)
    clear b0 hB
    go_wp2_with (go_at_call 86; refine (HT.out _ HIW.out).mono ?_; rintro e w' ⟨rfl, rfl⟩)
    clear h0 h1
    have h0 := HC.out.at_ 0
    have h1 := HC.out.at_ 1
    simp only [Array.getElem?_setIfInBounds, List.setIfInBounds_toArray, List.getElem?_toArray] at h0 h1
    refine bodyPost_ret (v := .agg #[.int .i64 0, .slice A 0 c]) ?_ rfl ⟨by rw [HS2.out], HL.out⟩
    simp [results, Try.results79, go_sem, h0, h1]
  · have HS2 := hide (HS.out.trans (if_neg h0))
    have ht : ((t : Int) == 0) = false := by simp; omega
    clear HS h0
    go_enter Try.func79, Try.ntmps79
    go_upto_region 1 with fail
    obtain ⟨W, hW⟩ : ∃ q : World, q = w.alloc (.cells #[.int .i64 0, .slice none 0 0] 93) := ⟨_, rfl⟩
    rw [← hW]
    have b0 : Box W w.heap.size 93 #[.int .i64 0, .slice none 0 0] := by rw [hW]; exact Box.made rfl
    have hB : Below w.heap.size w W := by rw [hW]; (repeat (first | (with_reducible exact Below.refl _ _) | (with_reducible refine Go.below_drewN ?_ _) | (with_reducible refine Below.drew ?_) | (with_reducible refine Below.alloc ?_ (by first | exact Nat.le_refl _ | (simp; done) | (simp; omega) | omega) _) | (with_reducible refine Below.setCell ?_ (by first | exact Nat.le_refl _ | (simp; done) | (simp; omega) | omega) _)))
    clear hW
    have h0 := b0.at_ 0
    have h1 := b0.at_ 1
    simp only [List.getElem?_toArray] at h0 h1
    have f0 := b0.free 0
    have f1 := b0.free 1
    have hlt := b0.lt
    have HC := hide ((b0.set_ 0 (.int .i64 s)).set_ 1 (.slice A t c))
    have HL := hide ((hB.setCell (p := ⟨w.heap.size, 0, none⟩) (Nat.le_refl _) (.int .i64 s)).setCell (p := ⟨w.heap.size, 1, none⟩) (Nat.le_refl _) (.slice A t c))
    have HIW := hide (HI.out.below hB)
    clear b0 hB
    go_wp2_with (go_at_call 86; refine (HT.out _ HIW.out).mono ?_; rintro e w' ⟨rfl, rfl⟩)
    clear h0 h1
    have h0 := HC.out.at_ 0
    have h1 := HC.out.at_ 1
    simp only [Array.getElem?_setIfInBounds, List.setIfInBounds_toArray, List.getElem?_toArray] at h0 h1
    refine bodyPost_ret (v := .agg #[.int .i64 s, .slice A t c]) ?_ rfl ⟨by rw [HS2.out], HL.out⟩
    simp [results, Try.results79, go_sem, h0, h1]
set_option maxHeartbeats 1000000 in
theorem wideNeg_any (s : Int) (A : Option Addr) (n c : Nat) (w : World) (hs : -1 ≤ s ∧ s ≤ 1) :
    Calls Try.prog 88 #[.agg #[.int .i64 s, .slice A n c]] w fun e w' => e = .returned (.agg #[.int .i64 (-s), .slice A n c]) ∧ Below w.heap.size w w' := by
  have q1 : IntKind.i64.wrap (-s) = -s := IntWalk.i64_in _ (by omega)
  clear hs
  go_enter Try.func88, Try.ntmps88
  go_wp2_with fail
  have hb : Box ((w.alloc (.cells #[.int .i64 s, .slice A n c] 93)).alloc (.cells #[.int .i64 (-s), .slice A n c] 93)) (w.heap.size + 1) 93 #[.int .i64 (-s), .slice A n c] := Box.made (by simp)
  have h0 := hb.at_ 0
  have h1 := hb.at_ 1
  simp only [List.getElem?_toArray] at h0 h1
  refine bodyPost_ret (v := .agg #[.int .i64 (-s), .slice A n c]) ?_ rfl ⟨rfl, by (repeat (first | (with_reducible exact Below.refl _ _) | (with_reducible refine Go.below_drewN ?_ _) | (with_reducible refine Below.drew ?_) | (with_reducible refine Below.alloc ?_ (by first | exact Nat.le_refl _ | (simp; done) | (simp; omega) | omega) _) | (with_reducible refine Below.setCell ?_ (by first | exact Nat.le_refl _ | (simp; done) | (simp; omega) | omega) _)))⟩
  simp [results, Try.results88, go_sem, h0, h1]
def digN (n : Nat) (D : Nat → Int) (i : Nat) : Int := if i < n then D i else 0
set_option maxHeartbeats 1000000 in
theorem digit_any (A : Option Addr) (n c : Nat) (D : Nat → Int) (i : Nat) (w : World) (hI : IntsAt w 0 A n D) :
    Calls Try.prog 92 #[.slice A n c, .int .i64 (i : Int)] w fun e w' => e = .returned (.int .i64 (digN n D i)) ∧ w = w' := by
  by_cases h : i < n
  · have hz : (i : Int) < (n : Int) := by omega
    have HV := hide (show digN n D i = D i from if_pos h)
    obtain ⟨b, o, rfl, -, -, x0⟩ := hI i h
    generalize digN n D i = v at *
    generalize D i = x at *
    clear hI h
    go_enter Try.func92, Try.ntmps92
    go_wp2_with fail
    go_ret
    exact ⟨by rw [HV.out]; rfl, rfl⟩
  · have hz : ¬ (i : Int) < (n : Int) := by omega
    have HV := hide (show digN n D i = 0 from if_neg h)
    generalize digN n D i = v at *
    clear hI h
    go_enter Try.func92, Try.ntmps92
    go_wp2_with fail
    go_ret
    exact ⟨by rw [HV.out]; rfl, rfl⟩
set_option maxHeartbeats 2000000 in
theorem cmpDigits_any (A B : Option Addr) (n c m d : Nat) (D E : Nat → Int) (w : World) (hn : n ≤ 1000) (hm : m ≤ 1000) (hI : IntsAt w 0 A n D) (hJ : IntsAt w 0 B m E) (hD : Dig n D) (hE : Dig m E) (hDn : Norm n D) (hEn : Norm m E) :
    Calls Try.prog 90 #[.slice A n c, .slice B m d] w fun e w' => e = .returned (.int .i64 (cmpI (valD D n) (valD E m))) ∧ Below w.heap.size w w' := by
  rcases Nat.lt_trichotomy n m with h | h | h
  · have HV := hide (cmpI_lt (valD_fewer h hD hE hEn))
    have t1 : ((n : Int) != (m : Int)) = true := by simp; omega
    have t2 : (n : Int) < (m : Int) := by omega
    generalize cmpI (valD D n) (valD E m) = v at *
    clear hI hJ hD hE hDn hEn h
    go_enter Try.func90, Try.ntmps90
    go_wp2_with fail
    go_ret
    exact ⟨by rw [HV.out]; rfl, Below.refl _ _⟩
  · subst h
    have HI := hide hI
    have HJ := hide hJ
    have t1 : ((n : Int) != (n : Int)) = false := by simp
    have HLT := hide (fun i (hi : i < n) (h1 : D i < E i) (h2 : ∀ j, i < j → j < n → D j = E j) => cmpI_lt (valD_less hD hE hi h1 h2))
    have HGT := hide (fun i (hi : i < n) (h1 : E i < D i) (h2 : ∀ j, i < j → j < n → D j = E j) => cmpI_gt (valD_less hE hD hi h1 fun j a b => (h2 j a b).symm))
    have HEQ := hide (fun (h2 : ∀ j, j < n → D j = E j) => cmpI_eq (valD_congr n h2))
    have q0 : IntKind.i64.wrap ((n : Int) - 1) = (n : Int) - 1 := IntWalk.i64_in _ (by omega)
    generalize cmpI (valD D n) (valD E n) = v at *
    clear hI hJ hD hE hDn hEn hm
    go_enter Try.func90, Try.ntmps90
    go_wp2_with fail
    go_loopw [5] (fun x wr => ∃ k : Nat, k ≤ n ∧ x = .int .i64 ((k : Int) - 1) ∧ Hid (∀ j, k ≤ j → j < n → D j = E j) ∧ Below w.heap.size w wr) (fun x _ => (Go.RowKit.intOf x + 1).toNat)
    case atStart => exact ⟨n, Nat.le_refl _, rfl, hide (fun j h1 h2 => absurd h2 (by omega)), Below.refl _ _⟩
    case round =>
      obtain ⟨k, hk, rfl, HQ, hB⟩ := hrel
      obtain ⟨wA, rfl⟩ : ∃ x : World, x = wr := ⟨_, rfl⟩
      rcases k with _ | j
      · have hv := HEQ.out fun j hj => HQ.out j (Nat.zero_le _) hj
        have t3 : ¬ (((0 : Nat) : Int) - 1 ≥ 0) := by omega
        go_wp2_with fail
        go_ret
        exact ⟨by first | rfl | (rw [hv]; rfl), hB⟩
      · have e0 : ((j + 1 : Nat) : Int) - 1 = (j : Int) := by omega
        have hjn : (j : Int) < (n : Int) := by omega
        rw [e0]
        have t3 : (j : Int) ≥ 0 := by omega
        have q1 : IntKind.i64.wrap ((j : Int) - 1) = (j : Int) - 1 := IntWalk.i64_in _ (by omega)
        obtain ⟨b, o, rfl, -, -, x0⟩ := (HI.out.below hB) j (by omega)
        obtain ⟨b', o', rfl, -, -, y0⟩ := (HJ.out.below hB) j (by omega)
        have h2 : ∀ q, j < q → q < n → D q = E q := fun q a b => HQ.out q (by omega) b
        have HLj := hide (fun h1 => HLT.out j (by omega) h1 h2)
        have HGj := hide (fun h1 => HGT.out j (by omega) h1 h2)
        have HQj := hide (show D j = E j → ∀ q, j ≤ q → q < n → D q = E q from fun e q a b => by
          by_cases h : q = j
          · rw [h]; exact e
          · exact h2 q (by omega) b)
        generalize D j = x at *
        generalize E j = y at *
        rcases Int.lt_trichotomy x y with h | h | h
        · have hv := HLj.out h
          clear HLj HGj HQj h2
          go_wp2_with fail
          go_quiet (fail)
          go_wp2_with fail
          go_ret
          exact ⟨by first | rfl | (rw [hv]; rfl), ⟨hB.os, hB.tape, hB.output, hB.size, hB.block⟩⟩
        · subst h
          have HN := hide (HQj.out rfl)
          have t4 : ¬ (x < x) := by omega
          have t5 : ¬ (x > x) := by omega
          clear HLj HGj HQj h2
          go_wp2_with fail
          go_quiet (fail)
          go_wp2_with fail
          go_quiet (fail)
          go_wp2_with fail
          go_roundw
          case rel => exact ⟨j, by omega, by first | rfl | go_num, HN, ⟨hB.os, hB.tape, hB.output, hB.size, hB.block⟩⟩
          case measure => (simp [Go.RowKit.intOf]; first | done | omega)
        · have hv := HGj.out h
          have t4 : ¬ (x < y) := by omega
          have t5 : x > y := h
          clear HLj HGj HQj h2 h
          go_wp2_with fail
          go_quiet (fail)
          go_wp2_with fail
          go_quiet (fail)
          go_wp2_with fail
          go_ret
          exact ⟨by first | rfl | (rw [hv]; rfl), ⟨hB.os, hB.tape, hB.output, hB.size, hB.block⟩⟩
  · have HV := hide (cmpI_gt (valD_fewer h hE hD hDn))
    have t1 : ((n : Int) != (m : Int)) = true := by simp; omega
    have t2 : ¬ ((n : Int) < (m : Int)) := by omega
    generalize cmpI (valD D n) (valD E m) = v at *
    clear hI hJ hD hE hDn hEn h
    go_enter Try.func90, Try.ntmps90
    go_wp2_with fail
    go_ret
    exact ⟨by rw [HV.out]; rfl, Below.refl _ _⟩
end Go.Proofs.Ytejhakkfgfahaaa
/- Numbers of any size: subDigits. -/
namespace Go.Proofs.Ytejhakkfgfahaaa
open Go.RowKit
/-- The digit i of a difference, and the borrow behind the first i digits. -/
def subB (D G : Nat → Int) : Nat → Int
  | 0 => 0
  | k + 1 => if D k - G k - subB D G k < 0 then 1 else 0
def subD (D G : Nat → Int) (k : Nat) : Int := if D k - G k - subB D G k < 0 then D k - G k - subB D G k + BB else D k - G k - subB D G k
theorem subB_bit {D G : Nat → Int} : ∀ k, subB D G k = 0 ∨ subB D G k = 1
  | 0 => .inl rfl
  | k + 1 => by
    show (if _ then (1 : Int) else 0) = 0 ∨ (if _ then (1 : Int) else 0) = 1
    split
    · exact .inr rfl
    · exact .inl rfl
theorem subD_dig {D G : Nat → Int} {n : Nat} (hD : Dig n D) (hG : Dig n G) : Dig n (subD D G) := fun j hj => by
  obtain ⟨d0, d1⟩ := hD j hj
  obtain ⟨g0, g1⟩ := hG j hj
  have hb := subB_bit (D := D) (G := G) j
  unfold subD
  unfold BB at *
  generalize subB D G j = b at *
  rcases hb with rfl | rfl <;> split <;> omega
theorem subD_val {D G : Nat → Int} : ∀ n, valD (subD D G) n - subB D G n * BB ^ n = valD D n - valD G n
  | 0 => rfl
  | k + 1 => by
    have ih := subD_val (D := D) (G := G) k
    have hs : subD D G k = if D k - G k - subB D G k < 0 then D k - G k - subB D G k + BB else D k - G k - subB D G k := rfl
    show valD (subD D G) k + subD D G k * BB ^ k - (if D k - G k - subB D G k < 0 then (1 : Int) else 0) * BB ^ (k + 1) = valD D k + D k * BB ^ k - (valD G k + G k * BB ^ k)
    rw [Int.pow_succ, Int.mul_comm (BB ^ k) BB]
    generalize subD D G k = z at *
    generalize valD (subD D G) k = V at *
    generalize BB ^ k = p at *
    generalize subB D G k = b at *
    have e1 : (D k - G k - b + BB) * p = D k * p - G k * p - b * p + BB * p := by rw [Int.add_mul, Int.sub_mul, Int.sub_mul]
    have e2 : (D k - G k - b) * p = D k * p - G k * p - b * p := by rw [Int.sub_mul, Int.sub_mul]
    by_cases h : D k - G k - b < 0
    · rw [if_pos h] at hs ⊢
      rw [hs, e1, Int.one_mul]
      omega
    · rw [if_neg h] at hs ⊢
      rw [hs, e2, Int.zero_mul]
      omega
theorem digN_dig {n m : Nat} {E : Nat → Int} (hE : Dig m E) : Dig n (digN m E) := fun j _ => by
  unfold digN
  split
  · rename_i h; exact hE j h
  · exact ⟨Int.le_refl _, by decide⟩
theorem digN_val {m : Nat} {E : Nat → Int} : ∀ n, m ≤ n → valD (digN m E) n = valD E m
  | 0, h => by rw [show m = 0 by omega]; rfl
  | k + 1, h => by
    by_cases e : m = k + 1
    · rw [e]
      exact valD_congr (k + 1) fun j hj => if_pos hj
    · show valD (digN m E) k + digN m E k * BB ^ k = valD E m
      rw [digN_val k (by omega), show digN m E k = 0 from if_neg (by omega), Int.zero_mul, Int.add_zero]
/-- A difference that is not below 0. -/
theorem sub_val {D E : Nat → Int} {n m : Nat} (hD : Dig n D) (hE : Dig m E) (hm : m ≤ n) (h : valD E m ≤ valD D n) : valD (subD D (digN m E)) n = valD D n - valD E m := by
  have h1 := subD_val (D := D) (G := digN m E) n
  rw [digN_val n hm] at h1
  have h2 := (valD_range n (subD_dig hD (digN_dig hE (n := n)))).2
  have hp := pow_pos_BB n
  rcases subB_bit (D := D) (G := digN m E) n with e | e <;> rw [e] at h1
  · rw [Int.zero_mul] at h1; omega
  · rw [Int.one_mul] at h1; omega
set_option maxHeartbeats 4000000 in
set_option maxRecDepth 100000 in
theorem subDigits_any (A B : Option Addr) (n c m d : Nat) (D E : Nat → Int) (w : World) (hn : n ≤ 1000) (hI : IntsAt w 0 A n D) (hJ : IntsAt w 0 B m E) (hD : Dig n D) (hE : Dig m E) :
    Calls Try.prog 91 #[.slice A n c, .slice B m d] w fun e w' => ∃ R r, e = .returned (.slice R (trimN (subD D (digN m E)) n) r) ∧ n ≤ r ∧ IntsAt w' w.heap.size R n (subD D (digN m E)) ∧ Below w.heap.size w w' := by
  obtain ⟨G, hG⟩ : ∃ G, G = digN m E := ⟨_, rfl⟩
  have HI := hide hI
  have HJ := hide hJ
  have HD := hide hD
  have HG := hide (show Dig n G by rw [hG]; exact digN_dig hE)
  have HDI := hide (show ∀ (i : Nat) (W : World), IntsAt W 0 B m E → Calls Try.prog 92 #[.slice B m d, .int .i64 (i : Int)] W fun e w' => e = .returned (.int .i64 (G i)) ∧ w' = W from fun i W h => by rw [hG]; exact (digit_any B m d E i W h).mono fun _ _ h => ⟨h.1, h.2.symm⟩)
  have HT := hide (fun (O : Option Addr) (o9 : Nat) (W : World) (h1 : n ≤ o9) (h2 : IntsAt W 0 O n (subD D G)) => trimmed_any O n o9 (subD D G) W hn h1 h2)
  rw [← hG]
  clear hI hJ hD hE hG
  go_enter Try.func91, Try.ntmps91
  go_wp2_with fail
  go_loopw [5, 6, 7] (fun v b x wr => ∃ k : Nat, k ≤ n ∧ b = .int .i64 (subB D G k) ∧ x = .int .i64 (k : Int) ∧ OwnInts wr w.heap.size v k (subD D G) ∧ Below w.heap.size w wr) (fun _ _ x _ => n - (Go.RowKit.intOf x).toNat)
  case atStart => exact ⟨0, Nat.zero_le _, rfl, rfl, OwnInts.nil_ _ _ _, Below.refl _ _⟩
  case round =>
    obtain ⟨k, hk, rfl, rfl, ho, hB⟩ := hrel
    obtain ⟨wA, rfl⟩ : ∃ x : World, x = wr := ⟨_, rfl⟩
    obtain ⟨O, o9, rfl, ho9, hO⟩ := ho.form
    have hBs := hB.size
    by_cases hlt : k < n
    · have hltz : (k : Int) < (n : Int) := by omega
      obtain ⟨b0, o0, rfl, -, -, x0⟩ := (HI.out.below hB) k hlt
      have HJA := hide (HJ.out.below hB)
      obtain ⟨d0, d1⟩ := HD.out k hlt
      obtain ⟨g0, g1⟩ := HG.out k hlt
      have hb := subB_bit (D := D) (G := G) k
      have HDk := hide (HDI.out k)
      have HS1 := hide (show subB D G (k + 1) = if D k - G k - subB D G k < 0 then 1 else 0 from rfl)
      have HS2 := hide (show subD D G k = if D k - G k - subB D G k < 0 then D k - G k - subB D G k + BB else D k - G k - subB D G k from rfl)
      generalize subB D G k = b at *
      generalize D k = p at *
      generalize G k = q at *
      obtain ⟨f, hf⟩ : ∃ f, f = p - q - b := ⟨_, rfl⟩
      rw [← hf] at HS1 HS2
      unfold BB at d1 g1 HS2
      have q1 : IntKind.i64.wrap (p - q) = p - q := IntWalk.i64_in _ (by omega)
      have q2 : IntKind.i64.wrap (p - q - b) = f := by rw [hf]; exact IntWalk.i64_in _ (by omega)
      have hf9 : -1000000002 ≤ f ∧ f ≤ 1000000002 := by omega
      have HO := hide ho
      have HB := hide hB
      clear hf d0 d1 g0 g1 hb ho hB hO
      by_cases hneg : f < 0
      · obtain ⟨z, hz⟩ : ∃ z, z = f + 1000000000 := ⟨_, rfl⟩
        have q3 : IntKind.i64.wrap (f + 1000000000) = z := by rw [hz]; exact IntWalk.i64_in _ (by omega)
        have HZ := hide (show subD D G k = z by rw [hz, HS2.out, if_pos hneg])
        have HY := hide (show subB D G (k + 1) = 1 by rw [HS1.out, if_pos hneg])
        clear hz HS1 HS2 hf9
        go_wp2_with fail
        go_quiet ((go_at_call 92; exact Calls.quiet_of_same (HDk.out _ HJA.out)))
        clear q1 q2
        go_wp2_with (at_builtin; refine wpList_append_ints _ rfl (.tmp 29) (.tmp 31) rfl w.heap.size 0 (.slice O k o9) k _ rfl ((HO.out.drewN _).alloc _) (some ⟨_, 0, none⟩) 1 1 (fun _ => z) rfl (IntsAt.one _ 0 z 3 (Nat.zero_le _)) (by omega) (by simp; omega) ?_; intro v' w' h1 hb4)
        go_roundw
        case rel =>
          refine ⟨k + 1, by omega, by rw [HY.out], by go_num, h1.congr fun j hj => ?_, ((Go.below_drewN HB.out _).alloc hBs _).trans hb4⟩
          unfold catF
          by_cases e : j < k
          · rw [if_pos e]
          · obtain rfl : j = k := by omega
            rw [if_neg e, HZ.out]
        case measure => simp [Go.RowKit.intOf]; omega
      · obtain ⟨z, hz⟩ : ∃ z, z = f := ⟨_, rfl⟩
        have HZ := hide (show subD D G k = f by rw [HS2.out, if_neg hneg])
        have HY := hide (show subB D G (k + 1) = 0 by rw [HS1.out, if_neg hneg])
        clear hz HS1 HS2 hf9
        go_wp2_with fail
        go_quiet ((go_at_call 92; exact Calls.quiet_of_same (HDk.out _ HJA.out)))
        clear q1 q2
        go_wp2_with (at_builtin; refine wpList_append_ints _ rfl (.tmp 29) (.tmp 31) rfl w.heap.size 0 (.slice O k o9) k _ rfl ((HO.out.drewN _).alloc _) (some ⟨_, 0, none⟩) 1 1 (fun _ => f) rfl (IntsAt.one _ 0 f 3 (Nat.zero_le _)) (by omega) (by simp; omega) ?_; intro v' w' h1 hb4)
        go_roundw
        case rel =>
          refine ⟨k + 1, by omega, by rw [HY.out], by go_num, h1.congr fun j hj => ?_, ((Go.below_drewN HB.out _).alloc hBs _).trans hb4⟩
          unfold catF
          by_cases e : j < k
          · rw [if_pos e]
          · obtain rfl : j = k := by omega
            rw [if_neg e, HZ.out]
        case measure => simp [Go.RowKit.intOf]; omega
    · obtain rfl : k = n := by omega
      have hltz : ¬ ((k : Int) < (k : Int)) := by omega
      have HTk := hide (HT.out O o9 wA ho9 (hO.weak (Nat.zero_le _)))
      clear hlt
      go_wp2_with fail
      refine HTk.out.mono ?_
      rintro e w' ⟨rfl, rfl⟩
      go_wp2_with fail
      go_ret
      exact ⟨O, o9, rfl, ho9, hO, hB⟩
end Go.Proofs.Ytejhakkfgfahaaa
