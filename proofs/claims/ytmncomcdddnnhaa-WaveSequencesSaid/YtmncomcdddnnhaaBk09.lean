/- Lemmas: Vh, Ta, Tb. -/
import Derived.BigQuiet
import Derived.Test.YtmncomcdddnnhaaBk03
import Derived.Test.YtmncomcdddnnhaaBk04
import Derived.Test.YtmncomcdddnnhaaBk07
import Derived.Test.YtmncomcdddnnhaaBk08
set_option linter.unusedVariables false
set_option linter.unusedSimpArgs false
/- awake of chapter 4: the document's examples. -/
namespace Go.Proofs.Ytmncomcdddnnhaa
open Go.RowKit Go.Great
theorem Box.path {w : World} {g lo : Nat} {t : TypeId} {a b c d e f : Int} (h : Box w g t #[.int .i64 a, .int .i64 b, .int .i64 c, .int .i64 d, .int .i64 e, .int .i64 f]) (hl : lo ≤ g) :
    PathsAt w lo (some ⟨g, 0, none⟩) 2 (fun i => if i = 0 then a else d) (fun i => if i = 0 then b else e) (fun i => if i = 0 then c else f) := fun i hi => by
  match i, hi with
  | 0, _ => exact ⟨g, 0, rfl, hl, h.lt, h.at_ 0, h.at_ 1, h.at_ 2⟩
  | 1, _ => exact ⟨g, 0, rfl, hl, h.lt, h.at_ 3, h.at_ 4, h.at_ 5⟩
theorem tDoc : turnedR ⟨0, 0, 0, 1⟩ 1 = ⟨-1, 0, 0, 0⟩ := by rfl
theorem tDocE : turnedE ⟨0, 0, 0, 1⟩ 1 = 0 := by decide
theorem chkDoc : chkE 2 (fun i => if i = 0 then 0 else 1) (fun i => if i = 0 then 1 else 2) (fun i => if i = 0 then 0 else 0) = 0 := by decide
theorem okDoc : PathsOk 2 (fun i => if i = 0 then 0 else 1) (fun i => if i = 0 then 1 else 2) (fun i => if i = 0 then 0 else 0) :=
  ⟨by decide, by decide, fun j hj => by match j, hj with | 0, _ => decide | 1, _ => decide, fun j hj => by match j, hj with | 0, _ => decide | 1, _ => decide⟩
theorem respDoc : respTo (fun i => if i = 0 then 0 else 1) (fun i => if i = 0 then 1 else 2) (fun i => if i = 0 then 0 else 0) 2 2 = ⟨1, 0, -2, 0⟩ := by rfl
def oneF (_ : Nat) : Num := ⟨1, 0, 0, 0⟩
def twoF (i : Nat) : Num := if i = 0 then ⟨1, 0, 0, 0⟩ else ⟨0, 0, 1, 0⟩
theorem offDoc : offR 2 2 oneF twoF = 2 := by kernel_rfl
theorem offDocE : offE 2 2 oneF twoF = 0 := by kernel_rfl
theorem seqDoc0 : seqF 0 0 = -1 := by decide
theorem seqDoc1 : seqF 0 1 = 1 := by decide
theorem Box.two {w : World} {g lo : Nat} {t : TypeId} {a b c d e f p q : Int} (h : Box w g t #[.int .i64 a, .int .i64 b, .int .i64 c, .int .i64 d, .int .i64 e, .int .i64 f, .int .i64 p, .int .i64 q]) (hl : lo ≤ g) (F : Nat → Num) (h0 : F 0 = ⟨a, b, c, d⟩) (h1 : F 1 = ⟨e, f, p, q⟩) :
    NumsAt w lo (some ⟨g, 0, none⟩) 2 F := fun i hi => by
  match i, hi with
  | 0, _ => rw [h0]; exact ⟨g, 0, rfl, hl, h.lt, h.at_ 0, h.at_ 1, h.at_ 2, h.at_ 3⟩
  | 1, _ => rw [h1]; exact ⟨g, 0, rfl, hl, h.lt, h.at_ 4, h.at_ 5, h.at_ 6, h.at_ 7⟩
set_option maxHeartbeats 8000000 in
set_option maxRecDepth 100000 in
theorem awake_any (w : World) : Calls Try.prog 6 #[] w fun e w' => e = .returned (.bool true) ∧ Below w.heap.size w w' := by
  have HT := hide (fun W => Turned_any ⟨0, 0, 0, 1⟩ 1 W)
  rw [tDoc, tDocE] at HT
  have HO := hide (fun A B c d W h k => OffsetOf_any A B 2 c 2 d oneF twoF W (by decide) (by decide) h k)
  rw [offDoc, offDocE] at HO
  have HS := hide (fun W => SequenceOf_right 0 W (by decide))
  go_enter Try.func6, Try.ntmps6
  go_wp2_with fail
  refine (HT.out _).mono ?_
  rintro e w1 ⟨rfl, hb1⟩
  simp only []
  go_wp2_with fail
  obtain ⟨W1, hW1⟩ : ∃ q : World, q = w1.alloc (.cells #[.int .i64 (-1), .int .i64 0, .int .i64 0, .int .i64 0] 41) := ⟨_, rfl⟩
  rw [← hW1]
  obtain ⟨g1, hg1⟩ : ∃ g, g = w1.heap.size := ⟨_, rfl⟩
  have b1 : Box W1 g1 41 #[.int .i64 (-1), .int .i64 0, .int .i64 0, .int .i64 0] := by rw [hW1]; exact Box.made hg1
  have hB1 : Below w.heap.size w W1 := by rw [hW1]; exact hb1.alloc hb1.size _
  have hs1 : w1.heap.size + 1 = W1.heap.size := by rw [hW1]; simp
  rw [hs1, ← hg1]
  clear hW1 hb1 hg1 hs1
  refine (ResponseOf_right _ 2 2 _ _ _ _ okDoc chkDoc ((Box.made rfl).path (Nat.zero_le _))).mono ?_
  rintro e w2 ⟨rfl, hb2⟩
  have hB2 : Below w.heap.size w w2 := hB1.trans ((below_behind hb2).mono hB1.size)
  replace b1 := b1.below (below_behind hb2)
  clear hb2 hB1
  obtain ⟨F, hF⟩ : ∃ F, F = fun k => respTo (fun i => if i = 0 then 0 else 1) (fun i => if i = 0 then 1 else 2) (fun i => if i = 0 then 0 else 0) k 2 := ⟨_, rfl⟩
  have HF := hide (show F 2 = ⟨1, 0, -2, 0⟩ from by rw [hF]; exact respDoc)
  rw [← hF]
  clear hF
  go_upto_region 3 with (first | (refine wpList_store8 rfl (.tmp 3) (.tmp 21) rfl w2.heap.size (fun _ => Num.zero) F rfl rfl (arrNums_alloc w2 _ _ rfl) ?_; intro W3 r3 o3) | (refine wpList_allocTo rfl (some 3) rfl (.pointer (some ⟨w2.heap.size, 0, none⟩)) (.cells (arr8 fun _ => Num.zero) 64) (by kernel_rfl) ?_))
  obtain ⟨g3, hg3⟩ : ∃ g, g = w2.heap.size := ⟨_, rfl⟩
  have hB3 : Below w.heap.size w W3 := (hB2.alloc hB2.size _).trans (o3.to_below hB2.size (Nat.le_trans hB2.size (by simp)))
  replace b1 := o3.box (b1.alloc _) (by have := b1.lt; omega)
  rw [← hg3] at r3
  rw [← hg3]
  clear hg3 o3 hB2
  go_wp2_with fail
  refine (HS.out _).mono ?_
  rintro e w4 ⟨A4, c4, rfl, hc4, hI4, hb4⟩
  replace r3 := r3.below hb4
  replace b1 := b1.below hb4
  have hB4 := hB3.trans (hb4.mono hB3.size)
  clear hb4 hB3
  go_wp2_with fail
  refine (HO.out _ _ _ _ _ (((Box.made rfl).two (Nat.zero_le _) oneF rfl rfl).alloc _) ((Box.made (by simp)).two (Nat.zero_le _) twoF rfl rfl)).mono ?_
  rintro e w5 ⟨rfl, hb5⟩
  have hc5 := below_behind (below_behind hb5)
  replace r3 := r3.below hc5
  replace b1 := b1.below hc5
  replace hI4 := hI4.below hc5
  have hB5 := hB4.trans (hc5.mono hB4.size)
  obtain ⟨b0, o0, rfl, -, -, i0⟩ := hI4 0 (by decide)
  obtain ⟨b0', o0', e0', -, -, i1⟩ := hI4 1 (by decide)
  injection e0' with e0'
  injection e0' with e1' e2'
  subst e1' e2'
  rw [seqDoc0, Nat.add_zero] at i0
  rw [seqDoc1] at i1
  have y0 := r3.part (show 2 < 8 by decide) (show 0 < 4 by decide)
  have y1 := r3.part (show 2 < 8 by decide) (show 1 < 4 by decide)
  have y2 := r3.part (show 2 < 8 by decide) (show 2 < 4 by decide)
  have y3 := r3.part (show 2 < 8 by decide) (show 3 < 4 by decide)
  rw [HF.out] at y0 y1 y2 y3
  replace y0 : w5.cell? ⟨g3, 8, none⟩ = some (.int .i64 1) := y0
  replace y1 : w5.cell? ⟨g3, 9, none⟩ = some (.int .i64 0) := y1
  replace y2 : w5.cell? ⟨g3, 10, none⟩ = some (.int .i64 (-2)) := y2
  replace y3 : w5.cell? ⟨g3, 11, none⟩ = some (.int .i64 0) := y3
  obtain ⟨x0, x1, x2, x3, -, -, -, -, -⟩ := b1.cells4
  clear r3 b1 hI4 hb5 hB4 hc5 HF HO HS HT
  go_wp2_with fail
  go_ret
  exact ⟨rfl, hB5⟩
end Go.Proofs.Ytmncomcdddnnhaa
/- Mathematics: the two sequences of signs as tables; how far sequences are apart. -/
namespace Go.Proofs.Ytmncomcdddnnhaa
open Go.RowKit
/-- What the array is at the end obeys its own rule. -/
theorem sgA_keep (T : Nat → Nat) (m : Nat) {k j : Nat} (hj : j < k + 5) : ∀ d, sgA T m (k + d) j = sgA T m k j
  | 0 => rfl
  | d + 1 => by
    show (if j = (k + d) + 5 then _ else sgA T m (k + d) j) = _
    rw [if_neg (by omega)]
    exact sgA_keep T m hj d
theorem tapP_congr {T : Nat → Nat} {S R : Nat → Int} {k m : Nat} (hT : ∀ i, i < m → T i < 5) (h : ∀ j, j < k + 5 → S j = R j) : ∀ i, i ≤ m → tapP T S k i = tapP T R k i
  | 0, _ => rfl
  | i + 1, hi => by
    show tapP T S k i * S (k + T i) = tapP T R k i * R (k + T i)
    rw [tapP_congr hT h i (by omega), h _ (by have := hT i (by omega); omega)]
theorem sgF_step (T : Nat → Nat) (m : Nat) (hT : ∀ i, i < m → T i < 5) {k : Nat} (hk : k < 26) : sgF T m (k + 5) = tapP T (sgF T m) k m := by
  unfold sgF
  rw [show (26 : Nat) = (k + 1) + (25 - k) by omega, sgA_keep T m (show k + 5 < (k + 1) + 5 by omega)]
  show (if k + 5 = k + 5 then tapP T (sgA T m k) k m else _) = _
  rw [if_pos rfl]
  exact tapP_congr hT (fun j hj => by rw [show (k + 1) + (25 - k) = k + (26 - k) by omega, sgA_keep T m hj]) m (Nat.le_refl m)
theorem sgF_low (T : Nat → Nat) (m : Nat) {j : Nat} (hj : j < 5) : sgF T m j = if j = 0 then -1 else 1 := by
  unfold sgF
  rw [show (26 : Nat) = 0 + 26 from rfl, sgA_keep T m (k := 0) (by omega)]
  show (if j = 0 then (-1 : Int) else if j < 5 then 1 else 0) = _
  rw [if_pos hj]
theorem sgF_table (T : Nat → Nat) (m : Nat) (hT : ∀ i, i < m → T i < 5) (R : Nat → Int) (h0 : ∀ j, j < 5 → R j = if j = 0 then -1 else 1) (h1 : ∀ k, k < 26 → R (k + 5) = tapP T R k m) :
    ∀ n j, j < n → j < 31 → sgF T m j = R j
  | 0, j, hj, _ => absurd hj (Nat.not_lt_zero j)
  | n + 1, j, hj, h31 => by
    by_cases h5 : j < 5
    · rw [sgF_low T m h5, h0 j h5]
    · obtain ⟨k, rfl⟩ : ∃ k, j = k + 5 := ⟨j - 5, by omega⟩
      rw [sgF_step T m hT (by omega), h1 k (by omega)]
      exact tapP_congr hT (fun q hq => sgF_table T m hT R h0 h1 n q (by omega) (by omega)) m (Nat.le_refl m)
def tS (j : Nat) : Int := ([-1, 1, 1, 1, 1, -1, 1, 1, -1, 1, -1, -1, 1, 1, -1, -1, -1, -1, -1, 1, 1, 1, -1, -1, 1, -1, -1, -1, 1, -1, 1] : List Int).getD j 0
def tV (j : Nat) : Int := ([-1, 1, 1, 1, 1, -1, -1, 1, 1, -1, 1, 1, -1, -1, -1, -1, -1, 1, -1, -1, -1, 1, 1, 1, -1, 1, -1, 1, -1, -1, 1] : List Int).getD j 0
theorem sgS {j : Nat} (hj : j < 31) : sgF T2 2 j = tS j :=
  sgF_table T2 2 (fun i _ => T2_lt i) tS (by decide) (by decide) (j + 1) j (Nat.lt_succ_self j) hj
theorem sgV {j : Nat} (hj : j < 31) : sgF T4 4 j = tV j :=
  sgF_table T4 4 (fun i _ => T4_lt i) tV (by decide) (by decide) (j + 1) j (Nat.lt_succ_self j) hj
/-- A sequence shifted, or all ones (e = 31). -/
def shE (t : Nat → Int) (e n : Nat) : Int := if e = 31 then 1 else t ((n + e) % 31)
def okE (t : Nat → Int) (b c e : Nat) : Bool := (List.range 31).all fun n => t ((n + b) % 31) * t ((n + c) % 31) == shE t e n
def pairOk (t : Nat → Int) (b c : Nat) : Bool := (List.range 32).any fun e => okE t b c e && (e != 31 || b == c)
def allOk (t : Nat → Int) : Bool := (List.range 31).all fun b => (List.range 31).all fun c => pairOk t b c
theorem allS : allOk tS = true := by kernel_rfl
theorem allV : allOk tV = true := by kernel_rfl
/-- How many of the first k values are -1. -/
def negN (H : Nat → Int) : Nat → Nat
  | 0 => 0
  | k + 1 => if H k = -1 then negN H k + 1 else negN H k
def farOk : Bool := (List.range 32).all fun e => (List.range 32).all fun f => (e == 31 && f == 31) || decide (11 ≤ negN (fun n => shE tS e n * shE tV f n) 31)
theorem far : farOk = true := by kernel_rfl
theorem pair_of {t : Nat → Int} (h : allOk t = true) {b c : Nat} (hb : b < 31) (hc : c < 31) : ∃ e, e < 32 ∧ (∀ n, n < 31 → t ((n + b) % 31) * t ((n + c) % 31) = shE t e n) ∧ (e = 31 → b = c) := by
  unfold allOk at h
  rw [List.all_eq_true] at h
  have h1 := h b (List.mem_range.2 hb)
  rw [List.all_eq_true] at h1
  have h2 := h1 c (List.mem_range.2 hc)
  unfold pairOk at h2
  rw [List.any_eq_true] at h2
  obtain ⟨e, he, h3⟩ := h2
  rw [Bool.and_eq_true] at h3
  refine ⟨e, List.mem_range.1 he, fun n hn => ?_, fun e31 => ?_⟩
  · have h4 := h3.1
    unfold okE at h4
    rw [List.all_eq_true] at h4
    simpa using h4 n (List.mem_range.2 hn)
  · have h5 := h3.2
    rw [e31] at h5
    simpa using h5
theorem far_of {e f : Nat} (he : e < 32) (hf : f < 32) (h : ¬ (e = 31 ∧ f = 31)) : 11 ≤ negN (fun n => shE tS e n * shE tV f n) 31 := by
  have h0 := far
  unfold farOk at h0
  rw [List.all_eq_true] at h0
  have h1 := h0 e (List.mem_range.2 he)
  rw [List.all_eq_true] at h1
  have h2 := h1 f (List.mem_range.2 hf)
  rw [Bool.or_eq_true] at h2
  rcases h2 with h2 | h2
  · exact absurd (by simpa using h2) h
  · exact of_decide_eq_true h2
/-- At how many of the first k places two sequences differ. -/
def difN (F G : Nat → Int) : Nat → Nat
  | 0 => 0
  | k + 1 => if F k = G k then difN F G k else difN F G k + 1
theorem difN_neg {F G : Nat → Int} : ∀ k, (∀ n, n < k → IsSign (F n) ∧ IsSign (G n)) → difN F G k = negN (fun n => F n * G n) k
  | 0, _ => rfl
  | k + 1, h => by
    unfold difN negN
    rw [difN_neg k fun n hn => h n (by omega)]
    obtain ⟨hf, hg⟩ := h k (Nat.lt_succ_self k)
    rcases hf with hf | hf <;> rcases hg with hg | hg <;> simp [hf, hg]
theorem negN_congr {H K : Nat → Int} : ∀ k, (∀ n, n < k → H n = K n) → negN H k = negN K k
  | 0, _ => rfl
  | k + 1, h => by
    unfold negN
    rw [negN_congr k fun n hn => h n (by omega), h k (Nat.lt_succ_self k)]
theorem difN_same {F : Nat → Int} : ∀ k, difN F F k = 0
  | 0 => rfl
  | k + 1 => by unfold difN; rw [if_pos rfl]; exact difN_same k
theorem difN_congr {F G F' G' : Nat → Int} : ∀ k, (∀ n, n < k → F n = F' n ∧ G n = G' n) → difN F G k = difN F' G' k
  | 0, _ => rfl
  | k + 1, h => by
    unfold difN
    rw [difN_congr k fun n hn => h n (by omega), (h k (Nat.lt_succ_self k)).1, (h k (Nat.lt_succ_self k)).2]
theorem difN_le {F G : Nat → Int} : ∀ k, difN F G k ≤ k
  | 0 => Nat.le_refl _
  | k + 1 => by unfold difN; split <;> (have := difN_le (F := F) (G := G) k; omega)
theorem halfA_table {i n : Nat} : halfA i n = tS ((n + 10 * (i % 3)) % 31) := sgS (Nat.mod_lt _ (by decide))
theorem halfB_table {i n : Nat} : halfB i n = tS ((n + i / 3 % 31) % 31) * tV ((n + i / 3 / 31) % 31) := by
  unfold halfB
  rw [sgS (Nat.mod_lt _ (by decide)), sgV (Nat.mod_lt _ (by decide))]
theorem tS_sign {j : Nat} (hj : j < 31) : IsSign (tS j) := by rw [← sgS hj]; exact sgF_sign (fun i _ => T2_lt i) j hj
theorem tV_sign {j : Nat} (hj : j < 31) : IsSign (tV j) := by rw [← sgV hj]; exact sgF_sign (fun i _ => T4_lt i) j hj
/-- Second halves of two groups. -/
theorem second_apart {a b : Nat} (ha : a < 1008) (hb : b < 1008) (h : a / 3 ≠ b / 3) : 11 ≤ difN (halfB a) (halfB b) 31 := by
  have hm : ∀ q, q % 31 < 31 := fun q => Nat.mod_lt q (by decide)
  rw [difN_neg 31 fun n _ => ⟨by rw [halfB_table]; exact (tS_sign (hm _)).mul (tV_sign (hm _)), by rw [halfB_table]; exact (tS_sign (hm _)).mul (tV_sign (hm _))⟩]
  obtain ⟨e, he, h1, h1'⟩ := pair_of allS (hm (a / 3)) (hm (b / 3))
  obtain ⟨f, hf, h2, h2'⟩ := pair_of allV (b := a / 3 / 31) (c := b / 3 / 31) (by omega) (by omega)
  rw [negN_congr (K := fun n => shE tS e n * shE tV f n) 31 fun n hn => by
    show halfB a n * halfB b n = _
    rw [halfB_table, halfB_table, ← h1 n hn, ← h2 n hn]
    generalize tS ((n + a / 3 % 31) % 31) = p
    generalize tV ((n + a / 3 / 31) % 31) = q
    generalize tS ((n + b / 3 % 31) % 31) = r
    generalize tV ((n + b / 3 / 31) % 31) = s
    rw [Int.mul_assoc, Int.mul_assoc, Int.mul_left_comm q r s]]
  exact far_of he hf fun ⟨e31, f31⟩ => by have := h1' e31; have := h2' f31; omega
theorem second_same {a b : Nat} (h : a / 3 = b / 3) : difN (halfB a) (halfB b) 31 = 0 := by
  rw [difN_congr (F' := halfB b) (G' := halfB b) 31 fun n _ => ⟨by unfold halfB; rw [h], rfl⟩]
  exact difN_same 31
def firstOk : Bool := (List.range 3).all fun s => (List.range 3).all fun t => difN (fun n => tS ((n + 10 * s) % 31)) (fun n => tS ((n + 10 * t) % 31)) 31 == if s = t then 0 else 16
theorem first_all : firstOk = true := by kernel_rfl
theorem first_is (a b : Nat) : difN (halfA a) (halfA b) 31 = if a % 3 = b % 3 then 0 else 16 := by
  rw [difN_congr (F' := fun n => tS ((n + 10 * (a % 3)) % 31)) (G' := fun n => tS ((n + 10 * (b % 3)) % 31)) 31 fun n _ => ⟨halfA_table, halfA_table⟩]
  have h0 := first_all
  unfold firstOk at h0
  rw [List.all_eq_true] at h0
  have h1 := h0 (a % 3) (List.mem_range.2 (Nat.mod_lt a (by decide)))
  rw [List.all_eq_true] at h1
  have h2 := h1 (b % 3) (List.mem_range.2 (Nat.mod_lt b (by decide)))
  simpa using h2
end Go.Proofs.Ytmncomcdddnnhaa
/- The walk of WaveApart. -/
namespace Go.Proofs.Ytmncomcdddnnhaa
open Go.RowKit Go.Great
theorem identityErr_any (n : Int) (w : World) :
    Calls Try.prog 11 #[.int .i64 n] w fun e w' => e = .returned (.int .i64 (unI (withinB n 0 1007) 2)) ∧ w = w' := by
  have HX := hide (fun W => within_any n 0 1007 W)
  generalize withinB n 0 1007 = v at *
  cases v
  all_goals
    go_enter Try.func11, Try.ntmps11
    go_wp2_with (go_at_call 41; refine (HX.out _).mono ?_; rintro e w' ⟨rfl, rfl⟩)
    go_ret
    exact ⟨rfl, rfl⟩
theorem seqF_first {i k : Nat} (h : k < 31) : seqF i k = halfA i k := by unfold seqF catF; rw [if_pos h]
theorem seqF_second {i k : Nat} : seqF i (31 + k) = halfB i k := by unfold seqF catF; rw [if_neg (by omega), show 31 + k - 31 = k by omega]
end Go.Proofs.Ytmncomcdddnnhaa
