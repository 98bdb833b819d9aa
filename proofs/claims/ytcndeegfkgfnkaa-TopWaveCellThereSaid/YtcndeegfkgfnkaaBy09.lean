/- Lemmas: Vh, Ta, Tb, Ad, Oa, Ua, Ob, Oc, Od, Oe, Uc. -/
import Derived.BigQuiet
import Derived.Laws.MakeOwn
import Derived.Laws.OwnMore
import Derived.OwnWalk
import Derived.Deep.QuietTactic
import Derived.StillTailTactics
import Derived.Test.YtcndeegfkgfnkaaBy01
import Derived.Test.YtcndeegfkgfnkaaBy03
import Derived.Test.YtcndeegfkgfnkaaBy04
import Derived.Test.YtcndeegfkgfnkaaBy05
import Derived.Test.YtcndeegfkgfnkaaBy07
import Derived.Test.YtcndeegfkgfnkaaBy08
set_option linter.unusedVariables false
set_option linter.unusedSimpArgs false
/- awake of chapter 4: the document's examples. -/
namespace Go.Proofs.Ytcndeegfkgfnkaa
open Go.RowKit Go.Great
theorem Box.path {w : World} {g lo : Nat} {t : TypeId} {a b c d e f : Int} (h : Box w g t #[.int .i64 a, .int .i64 b, .int .i64 c, .int .i64 d, .int .i64 e, .int .i64 f]) (hl : lo ≤ g) :
    PathsAt w lo (some ⟨g, 0, none⟩) 2 (fun i => if i = 0 then a else d) (fun i => if i = 0 then b else e) (fun i => if i = 0 then c else f) := fun i hi => by
  match i, hi with
  | 0, _ => exact ⟨g, 0, rfl, hl, h.lt, h.at_ 0, h.at_ 1, h.at_ 2⟩
  | 1, _ => exact ⟨g, 0, rfl, hl, h.lt, h.at_ 3, h.at_ 4, h.at_ 5⟩
theorem tDoc : turnedR ⟨0, 0, 0, 1⟩ 1 = ⟨-1, 0, 0, 0⟩ := by rfl
theorem tDocE : turnedE ⟨0, 0, 0, 1⟩ 1 = 0 := by decide
theorem chkDoc : chkE 2 (fun i => if i = 0 then 0 else 1) (fun i => if i = 0 then 1 else 2) (fun i => if i = 0 then 0 else 0) = 0 := by decide
theorem okDoc : PathsOk 2 (fun i => if i = 0 then 0 else 1) (fun i => if i = 0 then 1 else 2) (fun i => if i = 0 then 0 else 0) :=
  ⟨by decide, by decide, fun j hj => by match j, hj with | 0, _ => decide | 1, _ => decide, fun j hj => by match j, hj with | 0, _ => decide | 1, _ => decide⟩
theorem respDoc : respTo (fun i => if i = 0 then 0 else 1) (fun i => if i = 0 then 1 else 2) (fun i => if i = 0 then 0 else 0) 2 2 = ⟨1, 0, -2, 0⟩ := by rfl
def oneF (_ : Nat) : Num := ⟨1, 0, 0, 0⟩
def twoF (i : Nat) : Num := if i = 0 then ⟨1, 0, 0, 0⟩ else ⟨0, 0, 1, 0⟩
theorem offDoc : offR 2 2 oneF twoF = 2 := by kernel_rfl
theorem offDocE : offE 2 2 oneF twoF = 0 := by kernel_rfl
theorem seqDoc0 : seqF 0 0 = -1 := by decide
theorem seqDoc1 : seqF 0 1 = 1 := by decide
theorem Box.two {w : World} {g lo : Nat} {t : TypeId} {a b c d e f p q : Int} (h : Box w g t #[.int .i64 a, .int .i64 b, .int .i64 c, .int .i64 d, .int .i64 e, .int .i64 f, .int .i64 p, .int .i64 q]) (hl : lo ≤ g) (F : Nat → Num) (h0 : F 0 = ⟨a, b, c, d⟩) (h1 : F 1 = ⟨e, f, p, q⟩) :
    NumsAt w lo (some ⟨g, 0, none⟩) 2 F := fun i hi => by
  match i, hi with
  | 0, _ => rw [h0]; exact ⟨g, 0, rfl, hl, h.lt, h.at_ 0, h.at_ 1, h.at_ 2, h.at_ 3⟩
  | 1, _ => rw [h1]; exact ⟨g, 0, rfl, hl, h.lt, h.at_ 4, h.at_ 5, h.at_ 6, h.at_ 7⟩
set_option maxHeartbeats 8000000 in
set_option maxRecDepth 100000 in
theorem awake_any (w : World) : Calls Try.prog 5 #[] w fun e w' => e = .returned (.bool true) ∧ Below w.heap.size w w' := by
  have HT := hide (fun W => Turned_any ⟨0, 0, 0, 1⟩ 1 W)
  rw [tDoc, tDocE] at HT
  have HO := hide (fun A B c d W h k => OffsetOf_any A B 2 c 2 d oneF twoF W (by decide) (by decide) h k)
  rw [offDoc, offDocE] at HO
  have HS := hide (fun W => SequenceOf_right 0 W (by decide))
  go_enter Try.func5, Try.ntmps5
  go_wp2_with fail
  refine (HT.out _).mono ?_
  rintro e w1 ⟨rfl, hb1⟩
  simp only []
  go_wp2_with fail
  obtain ⟨W1, hW1⟩ : ∃ q : World, q = w1.alloc (.cells #[.int .i64 (-1), .int .i64 0, .int .i64 0, .int .i64 0] 46) := ⟨_, rfl⟩
  rw [← hW1]
  obtain ⟨g1, hg1⟩ : ∃ g, g = w1.heap.size := ⟨_, rfl⟩
  have b1 : Box W1 g1 46 #[.int .i64 (-1), .int .i64 0, .int .i64 0, .int .i64 0] := by rw [hW1]; exact Box.made hg1
  have hB1 : Below w.heap.size w W1 := by rw [hW1]; exact hb1.alloc hb1.size _
  have hs1 : w1.heap.size + 1 = W1.heap.size := by rw [hW1]; simp
  rw [hs1, ← hg1]
  clear hW1 hb1 hg1 hs1
  refine (ResponseOf_right _ 2 2 _ _ _ _ okDoc chkDoc ((Box.made rfl).path (Nat.zero_le _))).mono ?_
  rintro e w2 ⟨rfl, hb2⟩
  have hB2 : Below w.heap.size w w2 := hB1.trans ((below_behind hb2).mono hB1.size)
  replace b1 := b1.below (below_behind hb2)
  clear hb2 hB1
  obtain ⟨F, hF⟩ : ∃ F, F = fun k => respTo (fun i => if i = 0 then 0 else 1) (fun i => if i = 0 then 1 else 2) (fun i => if i = 0 then 0 else 0) k 2 := ⟨_, rfl⟩
  have HF := hide (show F 2 = ⟨1, 0, -2, 0⟩ from by rw [hF]; exact respDoc)
  rw [← hF]
  clear hF
  go_upto_region 3 with (first | (refine wpList_store8 rfl (.tmp 3) (.tmp 21) rfl w2.heap.size (fun _ => Num.zero) F rfl rfl (arrNums_alloc w2 _ _ rfl) ?_; intro W3 r3 o3) | (refine wpList_allocTo rfl (some 3) rfl (.pointer (some ⟨w2.heap.size, 0, none⟩)) (.cells (arr8 fun _ => Num.zero) 52) (by kernel_rfl) ?_))
  obtain ⟨g3, hg3⟩ : ∃ g, g = w2.heap.size := ⟨_, rfl⟩
  have hB3 : Below w.heap.size w W3 := (hB2.alloc hB2.size _).trans (o3.to_below hB2.size (Nat.le_trans hB2.size (by simp)))
  replace b1 := o3.box (b1.alloc _) (by have := b1.lt; omega)
  rw [← hg3] at r3
  rw [← hg3]
  clear hg3 o3 hB2
  go_wp2_with fail
  refine (HS.out _).mono ?_
  rintro e w4 ⟨A4, c4, rfl, hc4, hI4, hb4⟩
  replace r3 := r3.below hb4
  replace b1 := b1.below hb4
  have hB4 := hB3.trans (hb4.mono hB3.size)
  clear hb4 hB3
  go_wp2_with fail
  refine (HO.out _ _ _ _ _ (((Box.made rfl).two (Nat.zero_le _) oneF rfl rfl).alloc _) ((Box.made (by simp)).two (Nat.zero_le _) twoF rfl rfl)).mono ?_
  rintro e w5 ⟨rfl, hb5⟩
  have hc5 := below_behind (below_behind hb5)
  replace r3 := r3.below hc5
  replace b1 := b1.below hc5
  replace hI4 := hI4.below hc5
  have hB5 := hB4.trans (hc5.mono hB4.size)
  obtain ⟨b0, o0, rfl, -, -, i0⟩ := hI4 0 (by decide)
  obtain ⟨b0', o0', e0', -, -, i1⟩ := hI4 1 (by decide)
  injection e0' with e0'
  injection e0' with e1' e2'
  subst e1' e2'
  rw [seqDoc0, Nat.add_zero] at i0
  rw [seqDoc1] at i1
  have y0 := r3.part (show 2 < 8 by decide) (show 0 < 4 by decide)
  have y1 := r3.part (show 2 < 8 by decide) (show 1 < 4 by decide)
  have y2 := r3.part (show 2 < 8 by decide) (show 2 < 4 by decide)
  have y3 := r3.part (show 2 < 8 by decide) (show 3 < 4 by decide)
  rw [HF.out] at y0 y1 y2 y3
  replace y0 : w5.cell? ⟨g3, 8, none⟩ = some (.int .i64 1) := y0
  replace y1 : w5.cell? ⟨g3, 9, none⟩ = some (.int .i64 0) := y1
  replace y2 : w5.cell? ⟨g3, 10, none⟩ = some (.int .i64 (-2)) := y2
  replace y3 : w5.cell? ⟨g3, 11, none⟩ = some (.int .i64 0) := y3
  obtain ⟨x0, x1, x2, x3, -, -, -, -, -⟩ := b1.cells4
  clear r3 b1 hI4 hb5 hB4 hc5 HF HO HS HT
  go_wp2_with fail
  go_ret
  exact ⟨rfl, hB5⟩
end Go.Proofs.Ytcndeegfkgfnkaa
/- Mathematics: the two sequences of signs as tables; how far sequences are apart. -/
namespace Go.Proofs.Ytcndeegfkgfnkaa
open Go.RowKit
/-- What the array is at the end obeys its own rule. -/
theorem sgA_keep (T : Nat → Nat) (m : Nat) {k j : Nat} (hj : j < k + 5) : ∀ d, sgA T m (k + d) j = sgA T m k j
  | 0 => rfl
  | d + 1 => by
    show (if j = (k + d) + 5 then _ else sgA T m (k + d) j) = _
    rw [if_neg (by omega)]
    exact sgA_keep T m hj d
theorem tapP_congr {T : Nat → Nat} {S R : Nat → Int} {k m : Nat} (hT : ∀ i, i < m → T i < 5) (h : ∀ j, j < k + 5 → S j = R j) : ∀ i, i ≤ m → tapP T S k i = tapP T R k i
  | 0, _ => rfl
  | i + 1, hi => by
    show tapP T S k i * S (k + T i) = tapP T R k i * R (k + T i)
    rw [tapP_congr hT h i (by omega), h _ (by have := hT i (by omega); omega)]
theorem sgF_step (T : Nat → Nat) (m : Nat) (hT : ∀ i, i < m → T i < 5) {k : Nat} (hk : k < 26) : sgF T m (k + 5) = tapP T (sgF T m) k m := by
  unfold sgF
  rw [show (26 : Nat) = (k + 1) + (25 - k) by omega, sgA_keep T m (show k + 5 < (k + 1) + 5 by omega)]
  show (if k + 5 = k + 5 then tapP T (sgA T m k) k m else _) = _
  rw [if_pos rfl]
  exact tapP_congr hT (fun j hj => by rw [show (k + 1) + (25 - k) = k + (26 - k) by omega, sgA_keep T m hj]) m (Nat.le_refl m)
theorem sgF_low (T : Nat → Nat) (m : Nat) {j : Nat} (hj : j < 5) : sgF T m j = if j = 0 then -1 else 1 := by
  unfold sgF
  rw [show (26 : Nat) = 0 + 26 from rfl, sgA_keep T m (k := 0) (by omega)]
  show (if j = 0 then (-1 : Int) else if j < 5 then 1 else 0) = _
  rw [if_pos hj]
theorem sgF_table (T : Nat → Nat) (m : Nat) (hT : ∀ i, i < m → T i < 5) (R : Nat → Int) (h0 : ∀ j, j < 5 → R j = if j = 0 then -1 else 1) (h1 : ∀ k, k < 26 → R (k + 5) = tapP T R k m) :
    ∀ n j, j < n → j < 31 → sgF T m j = R j
  | 0, j, hj, _ => absurd hj (Nat.not_lt_zero j)
  | n + 1, j, hj, h31 => by
    by_cases h5 : j < 5
    · rw [sgF_low T m h5, h0 j h5]
    · obtain ⟨k, rfl⟩ : ∃ k, j = k + 5 := ⟨j - 5, by omega⟩
      rw [sgF_step T m hT (by omega), h1 k (by omega)]
      exact tapP_congr hT (fun q hq => sgF_table T m hT R h0 h1 n q (by omega) (by omega)) m (Nat.le_refl m)
def tS (j : Nat) : Int := ([-1, 1, 1, 1, 1, -1, 1, 1, -1, 1, -1, -1, 1, 1, -1, -1, -1, -1, -1, 1, 1, 1, -1, -1, 1, -1, -1, -1, 1, -1, 1] : List Int).getD j 0
def tV (j : Nat) : Int := ([-1, 1, 1, 1, 1, -1, -1, 1, 1, -1, 1, 1, -1, -1, -1, -1, -1, 1, -1, -1, -1, 1, 1, 1, -1, 1, -1, 1, -1, -1, 1] : List Int).getD j 0
theorem sgS {j : Nat} (hj : j < 31) : sgF T2 2 j = tS j :=
  sgF_table T2 2 (fun i _ => T2_lt i) tS (by decide) (by decide) (j + 1) j (Nat.lt_succ_self j) hj
theorem sgV {j : Nat} (hj : j < 31) : sgF T4 4 j = tV j :=
  sgF_table T4 4 (fun i _ => T4_lt i) tV (by decide) (by decide) (j + 1) j (Nat.lt_succ_self j) hj
/-- A sequence shifted, or all ones (e = 31). -/
def shE (t : Nat → Int) (e n : Nat) : Int := if e = 31 then 1 else t ((n + e) % 31)
def okE (t : Nat → Int) (b c e : Nat) : Bool := (List.range 31).all fun n => t ((n + b) % 31) * t ((n + c) % 31) == shE t e n
def pairOk (t : Nat → Int) (b c : Nat) : Bool := (List.range 32).any fun e => okE t b c e && (e != 31 || b == c)
def allOk (t : Nat → Int) : Bool := (List.range 31).all fun b => (List.range 31).all fun c => pairOk t b c
theorem allS : allOk tS = true := by kernel_rfl
theorem allV : allOk tV = true := by kernel_rfl
/-- How many of the first k values are -1. -/
def negN (H : Nat → Int) : Nat → Nat
  | 0 => 0
  | k + 1 => if H k = -1 then negN H k + 1 else negN H k
def farOk : Bool := (List.range 32).all fun e => (List.range 32).all fun f => (e == 31 && f == 31) || decide (11 ≤ negN (fun n => shE tS e n * shE tV f n) 31)
theorem far : farOk = true := by kernel_rfl
theorem pair_of {t : Nat → Int} (h : allOk t = true) {b c : Nat} (hb : b < 31) (hc : c < 31) : ∃ e, e < 32 ∧ (∀ n, n < 31 → t ((n + b) % 31) * t ((n + c) % 31) = shE t e n) ∧ (e = 31 → b = c) := by
  unfold allOk at h
  rw [List.all_eq_true] at h
  have h1 := h b (List.mem_range.2 hb)
  rw [List.all_eq_true] at h1
  have h2 := h1 c (List.mem_range.2 hc)
  unfold pairOk at h2
  rw [List.any_eq_true] at h2
  obtain ⟨e, he, h3⟩ := h2
  rw [Bool.and_eq_true] at h3
  refine ⟨e, List.mem_range.1 he, fun n hn => ?_, fun e31 => ?_⟩
  · have h4 := h3.1
    unfold okE at h4
    rw [List.all_eq_true] at h4
    simpa using h4 n (List.mem_range.2 hn)
  · have h5 := h3.2
    rw [e31] at h5
    simpa using h5
theorem far_of {e f : Nat} (he : e < 32) (hf : f < 32) (h : ¬ (e = 31 ∧ f = 31)) : 11 ≤ negN (fun n => shE tS e n * shE tV f n) 31 := by
  have h0 := far
  unfold farOk at h0
  rw [List.all_eq_true] at h0
  have h1 := h0 e (List.mem_range.2 he)
  rw [List.all_eq_true] at h1
  have h2 := h1 f (List.mem_range.2 hf)
  rw [Bool.or_eq_true] at h2
  rcases h2 with h2 | h2
  · exact absurd (by simpa using h2) h
  · exact of_decide_eq_true h2
/-- At how many of the first k places two sequences differ. -/
def difN (F G : Nat → Int) : Nat → Nat
  | 0 => 0
  | k + 1 => if F k = G k then difN F G k else difN F G k + 1
theorem difN_neg {F G : Nat → Int} : ∀ k, (∀ n, n < k → IsSign (F n) ∧ IsSign (G n)) → difN F G k = negN (fun n => F n * G n) k
  | 0, _ => rfl
  | k + 1, h => by
    unfold difN negN
    rw [difN_neg k fun n hn => h n (by omega)]
    obtain ⟨hf, hg⟩ := h k (Nat.lt_succ_self k)
    rcases hf with hf | hf <;> rcases hg with hg | hg <;> simp [hf, hg]
theorem negN_congr {H K : Nat → Int} : ∀ k, (∀ n, n < k → H n = K n) → negN H k = negN K k
  | 0, _ => rfl
  | k + 1, h => by
    unfold negN
    rw [negN_congr k fun n hn => h n (by omega), h k (Nat.lt_succ_self k)]
theorem difN_same {F : Nat → Int} : ∀ k, difN F F k = 0
  | 0 => rfl
  | k + 1 => by unfold difN; rw [if_pos rfl]; exact difN_same k
theorem difN_congr {F G F' G' : Nat → Int} : ∀ k, (∀ n, n < k → F n = F' n ∧ G n = G' n) → difN F G k = difN F' G' k
  | 0, _ => rfl
  | k + 1, h => by
    unfold difN
    rw [difN_congr k fun n hn => h n (by omega), (h k (Nat.lt_succ_self k)).1, (h k (Nat.lt_succ_self k)).2]
theorem difN_le {F G : Nat → Int} : ∀ k, difN F G k ≤ k
  | 0 => Nat.le_refl _
  | k + 1 => by unfold difN; split <;> (have := difN_le (F := F) (G := G) k; omega)
theorem halfA_table {i n : Nat} : halfA i n = tS ((n + 10 * (i % 3)) % 31) := sgS (Nat.mod_lt _ (by decide))
theorem halfB_table {i n : Nat} : halfB i n = tS ((n + i / 3 % 31) % 31) * tV ((n + i / 3 / 31) % 31) := by
  unfold halfB
  rw [sgS (Nat.mod_lt _ (by decide)), sgV (Nat.mod_lt _ (by decide))]
theorem tS_sign {j : Nat} (hj : j < 31) : IsSign (tS j) := by rw [← sgS hj]; exact sgF_sign (fun i _ => T2_lt i) j hj
theorem tV_sign {j : Nat} (hj : j < 31) : IsSign (tV j) := by rw [← sgV hj]; exact sgF_sign (fun i _ => T4_lt i) j hj
/-- Second halves of two groups. -/
theorem second_apart {a b : Nat} (ha : a < 1008) (hb : b < 1008) (h : a / 3 ≠ b / 3) : 11 ≤ difN (halfB a) (halfB b) 31 := by
  have hm : ∀ q, q % 31 < 31 := fun q => Nat.mod_lt q (by decide)
  rw [difN_neg 31 fun n _ => ⟨by rw [halfB_table]; exact (tS_sign (hm _)).mul (tV_sign (hm _)), by rw [halfB_table]; exact (tS_sign (hm _)).mul (tV_sign (hm _))⟩]
  obtain ⟨e, he, h1, h1'⟩ := pair_of allS (hm (a / 3)) (hm (b / 3))
  obtain ⟨f, hf, h2, h2'⟩ := pair_of allV (b := a / 3 / 31) (c := b / 3 / 31) (by omega) (by omega)
  rw [negN_congr (K := fun n => shE tS e n * shE tV f n) 31 fun n hn => by
    show halfB a n * halfB b n = _
    rw [halfB_table, halfB_table, ← h1 n hn, ← h2 n hn]
    generalize tS ((n + a / 3 % 31) % 31) = p
    generalize tV ((n + a / 3 / 31) % 31) = q
    generalize tS ((n + b / 3 % 31) % 31) = r
    generalize tV ((n + b / 3 / 31) % 31) = s
    rw [Int.mul_assoc, Int.mul_assoc, Int.mul_left_comm q r s]]
  exact far_of he hf fun ⟨e31, f31⟩ => by have := h1' e31; have := h2' f31; omega
theorem second_same {a b : Nat} (h : a / 3 = b / 3) : difN (halfB a) (halfB b) 31 = 0 := by
  rw [difN_congr (F' := halfB b) (G' := halfB b) 31 fun n _ => ⟨by unfold halfB; rw [h], rfl⟩]
  exact difN_same 31
def firstOk : Bool := (List.range 3).all fun s => (List.range 3).all fun t => difN (fun n => tS ((n + 10 * s) % 31)) (fun n => tS ((n + 10 * t) % 31)) 31 == if s = t then 0 else 16
theorem first_all : firstOk = true := by kernel_rfl
theorem first_is (a b : Nat) : difN (halfA a) (halfA b) 31 = if a % 3 = b % 3 then 0 else 16 := by
  rw [difN_congr (F' := fun n => tS ((n + 10 * (a % 3)) % 31)) (G' := fun n => tS ((n + 10 * (b % 3)) % 31)) 31 fun n _ => ⟨halfA_table, halfA_table⟩]
  have h0 := first_all
  unfold firstOk at h0
  rw [List.all_eq_true] at h0
  have h1 := h0 (a % 3) (List.mem_range.2 (Nat.mod_lt a (by decide)))
  rw [List.all_eq_true] at h1
  have h2 := h1 (b % 3) (List.mem_range.2 (Nat.mod_lt b (by decide)))
  simpa using h2
end Go.Proofs.Ytcndeegfkgfnkaa
/- The walk of WaveApart. -/
namespace Go.Proofs.Ytcndeegfkgfnkaa
open Go.RowKit Go.Great
theorem identityErr_any (n : Int) (w : World) :
    Calls Try.prog 6 #[.int .i64 n] w fun e w' => e = .returned (.int .i64 (unI (withinB n 0 1007) 2)) ∧ w = w' := by
  have HX := hide (fun W => within_any n 0 1007 W)
  generalize withinB n 0 1007 = v at *
  cases v
  all_goals
    go_enter Try.func6, Try.ntmps6
    go_wp2_with (go_at_call 7; refine (HX.out _).mono ?_; rintro e w' ⟨rfl, rfl⟩)
    go_ret
    exact ⟨rfl, rfl⟩
theorem seqF_first {i k : Nat} (h : k < 31) : seqF i k = halfA i k := by unfold seqF catF; rw [if_pos h]
theorem seqF_second {i k : Nat} : seqF i (31 + k) = halfB i k := by unfold seqF catF; rw [if_neg (by omega), show 31 + k - 31 = k by omega]
end Go.Proofs.Ytcndeegfkgfnkaa
/- Slices of api.WavePath in memory, those of the call's own, an append to one. -/
namespace Go.Proofs.Ytcndeegfkgfnkaa
open Go.RowKit
structure Pat where
  d : Int
  re : Int
  im : Int
theorem Pat.same {x y : Pat} (h0 : x.d = y.d) (h1 : x.re = y.re) (h2 : x.im = y.im) : x = y := by
  cases x; cases y; simp_all
def Pat.zero : Pat := ⟨0, 0, 0⟩
def Pat.part (x : Pat) (i : Nat) : Int := if i = 0 then x.d else if i = 1 then x.re else x.im
def PatsAt (w : World) (lo : Nat) (A : Option Addr) (n : Nat) (F : Nat → Pat) : Prop :=
  ∀ i, i < n → ∃ b o, A = some ⟨b, o, none⟩ ∧ lo ≤ b ∧ b < w.heap.size ∧ w.cell? ⟨b, o + i * 3, none⟩ = some (.int .i64 (F i).d) ∧ w.cell? ⟨b, o + i * 3 + 1, none⟩ = some (.int .i64 (F i).re) ∧ w.cell? ⟨b, o + i * 3 + 2, none⟩ = some (.int .i64 (F i).im)
section
variable {w w' : World} {lo n : Nat} {A : Option Addr} {F : Nat → Pat}
theorem PatsAt.nil_ : PatsAt w lo A 0 F := fun i h => absurd h (Nat.not_lt_zero i)
theorem PatsAt.below (h : PatsAt w lo A n F) (hb : Below w.heap.size w w') : PatsAt w' lo A n F := fun i hi => by
  obtain ⟨b, o, e, h1, h2, k0, k1, k2⟩ := h i hi
  exact ⟨b, o, e, h1, Nat.lt_of_lt_of_le h2 hb.size, (hb.cell (p := ⟨b, _, none⟩) h2).trans k0, (hb.cell (p := ⟨b, _, none⟩) h2).trans k1, (hb.cell (p := ⟨b, _, none⟩) h2).trans k2⟩
theorem PatsAt.alloc (h : PatsAt w lo A n F) (x : Obj) : PatsAt (w.alloc x) lo A n F := h.below ((Below.refl _ _).alloc (Nat.le_refl _) _)
theorem PatsAt.drewN (h : PatsAt w lo A n F) (m : Nat) : PatsAt (w.drewN m) lo A n F := h
theorem PatsAt.weak {lo' : Nat} (h : PatsAt w lo A n F) (hl : lo' ≤ lo) : PatsAt w lo' A n F := fun i hi => by
  obtain ⟨b, o, e, h1, h2⟩ := h i hi
  exact ⟨b, o, e, Nat.le_trans hl h1, h2⟩
theorem PatsAt.congr {G : Nat → Pat} (h : PatsAt w lo A n F) (e : ∀ i, i < n → F i = G i) : PatsAt w lo A n G := fun i hi => by
  rw [← e i hi]; exact h i hi
theorem PatsAt.fewer {m : Nat} (h : PatsAt w lo A n F) (hm : m ≤ n) : PatsAt w lo A m F := fun i hi => h i (Nat.lt_of_lt_of_le hi hm)
theorem PatsAt.one {b : Nat} {x : Pat} {t : TypeId} (h : Box w b t #[.int .i64 x.d, .int .i64 x.re, .int .i64 x.im]) : PatsAt w 0 (some ⟨b, 0, none⟩) 1 (fun _ => x) := fun i hi => by
  obtain rfl : i = 0 := by omega
  exact ⟨b, 0, rfl, Nat.zero_le _, h.lt, h.at_ 0, h.at_ 1, h.at_ 2⟩
end
def patVals (n : Nat) (F : Nat → Pat) : List Value := (List.range (n * 3)).map fun j => Value.int .i64 ((F (j / 3)).part (j % 3))
theorem patVals_len (n : Nat) (F : Nat → Pat) : (patVals n F).length = n * 3 := by simp [patVals]
theorem patVals_get (n : Nat) (F : Nat → Pat) (j : Nat) : (patVals n F)[j]? = if j < n * 3 then some (.int .i64 ((F (j / 3)).part (j % 3))) else none := by
  unfold patVals
  by_cases h : j < n * 3
  · rw [if_pos h]; simp [h]
  · rw [if_neg h, List.getElem?_eq_none (by simp; omega)]
theorem patVals_congr {n : Nat} {F G : Nat → Pat} (h : ∀ j, j < n → F j = G j) : patVals n F = patVals n G := by
  unfold patVals
  exact List.map_congr_left fun j hj => by
    have := List.mem_range.1 hj
    rw [h (j / 3) (by omega)]
def setPat (F : Nat → Pat) (k : Nat) (x : Pat) (j : Nat) : Pat := if j = k then x else F j
def OwnPats (w : World) (base : Nat) (v : Value) (n : Nat) (F : Nat → Pat) : Prop := w.ownsRow base 41 3 v n (patVals n F)
theorem OwnPats.congr {w : World} {base n : Nat} {v : Value} {F G : Nat → Pat} (h : OwnPats w base v n F) (e : ∀ j, j < n → F j = G j) : OwnPats w base v n G := by
  unfold OwnPats at h ⊢
  rwa [← patVals_congr e]
theorem OwnPats.drew {w : World} {base n : Nat} {v : Value} {F : Nat → Pat} (h : OwnPats w base v n F) : OwnPats w.drew base v n F := h
theorem OwnPats.drewN {w : World} {base n : Nat} {v : Value} {F : Nat → Pat} (h : OwnPats w base v n F) (q : Nat) : OwnPats (w.drewN q) base v n F := h
theorem OwnPats.alloc {w : World} {base n : Nat} {v : Value} {F : Nat → Pat} (h : OwnPats w base v n F) (o : Obj) : OwnPats (w.alloc o) base v n F := World.ownsRow.alloc h o
theorem OwnPats.below {w w' : World} {base n : Nat} {v : Value} {F : Nat → Pat} (h : OwnPats w base v n F) (hb : Below w.heap.size w w') : OwnPats w' base v n F :=
  World.ownsRow.kept h (row := none) ⟨hb.os, hb.tape, hb.output, hb.size, fun k hk _ => hb.block k hk⟩ (by cases v.ownBlock <;> simp)
theorem OwnPats.weak {w : World} {base base' n : Nat} {v : Value} {F : Nat → Pat} (h : OwnPats w base v n F) (hb : base' ≤ base) : OwnPats w base' v n F :=
  ⟨h.1, h.2.elim Or.inl (fun ⟨g, cap, cur, hv, hg, r⟩ => Or.inr ⟨g, cap, cur, hv, Nat.le_trans hb hg, r⟩)⟩
theorem OwnPats.lt {w : World} {base n g c : Nat} {F : Nat → Pat} (h : OwnPats w base (.slice (some ⟨g, 0, none⟩) n c) n F) : base ≤ g ∧ g < w.heap.size := World.ownsRow.lt h g rfl
theorem OwnPats.part {w : World} {base n g c : Nat} {F : Nat → Pat} (h : OwnPats w base (.slice (some ⟨g, 0, none⟩) n c) n F) {k i : Nat} (hk : k < n) (hi : i < 3) : w.cell? ⟨g, k * 3 + i, none⟩ = some (.int .i64 ((F k).part i)) := by
  rw [World.ownsRow.cellAt h (k * 3 + i) (by omega), patVals_get, if_pos (by omega), show (k * 3 + i) / 3 = k by omega, show (k * 3 + i) % 3 = i by omega]
theorem OwnPats.cells {w : World} {base n g c : Nat} {F : Nat → Pat} (h : OwnPats w base (.slice (some ⟨g, 0, none⟩) n c) n F) {k : Nat} (hk : k < n) :
    w.cell? ⟨g, k * 3, none⟩ = some (.int .i64 (F k).d) ∧ w.cell? ⟨g, k * 3 + 1, none⟩ = some (.int .i64 (F k).re) ∧ w.cell? ⟨g, k * 3 + 2, none⟩ = some (.int .i64 (F k).im) :=
  ⟨h.part hk (show 0 < 3 by decide), h.part hk (show 1 < 3 by decide), h.part hk (show 2 < 3 by decide)⟩
theorem OwnPats.frozen {w : World} {base n g c : Nat} {F : Nat → Pat} (h : OwnPats w base (.slice (some ⟨g, 0, none⟩) n c) n F) (k : Nat) : w.frozen? ⟨g, k, none⟩ = false := World.ownsRow.frozenAt h k
theorem OwnPats.nums {w : World} {base n c : Nat} {A : Option Addr} {F : Nat → Pat} (h : OwnPats w base (.slice A n c) n F) : PatsAt w base A n F := fun i hi => by
  rcases h.2 with ⟨e, hx⟩ | ⟨g, cap, cur, e, hb, hg, hnc, hm, hsz, htake⟩
  · omega
  · injection e with e1 e2 e3
    subst e1
    have h' : OwnPats w base (.slice (some ⟨g, 0, none⟩) n c) n F := h
    obtain ⟨k0, k1, k2⟩ := h'.cells hi
    exact ⟨g, 0, rfl, hb, (Array.getElem?_eq_some_iff.1 hg).1, by rwa [Nat.zero_add], by rwa [Nat.zero_add], by rwa [Nat.zero_add]⟩
theorem patInfo : (Try.prog.info? 41).map (fun i => (i.zero, i.size, i.bytes)) = some (some (.agg #[.int .i64 0, .int .i64 0, .int .i64 0]), 3, 24) := by kernel_rfl
def catPat (n : Nat) (F G : Nat → Pat) : Nat → Pat := fun j => if j < n then F j else G (j - n)
theorem patVals_cat (n m : Nat) (F G : Nat → Pat) : patVals n F ++ patVals m G = patVals (n + m) (catPat n F G) := by
  apply List.ext_getElem?
  intro j
  rw [List.getElem?_append, patVals_len, patVals_get, patVals_get, patVals_get]
  unfold catPat
  by_cases h1 : j < n * 3
  · rw [if_pos h1, if_pos h1, if_pos (by omega), if_pos (by omega)]
  · rw [if_neg h1]
    by_cases h2 : j - n * 3 < m * 3
    · rw [if_pos h2, if_pos (by omega), if_neg (by omega), show (j - n * 3) / 3 = j / 3 - n by omega, show (j - n * 3) % 3 = j % 3 by omega]
    · rw [if_neg h2, if_neg (by omega)]
theorem ownPats_nil (w : World) (base : Nat) (F : Nat → Pat) : OwnPats w base (.slice none 0 0) 0 F := World.ownsRow_nil _ _ _ _
theorem OwnPats.empty (w : World) (g : Nat) (hg : g = w.heap.size) (F : Nat → Pat) : OwnPats (w.alloc (.cells #[] 41)) w.heap.size (.slice (some ⟨g, 0, none⟩) 0 0) 0 F := by
  subst hg
  exact World.ownsRow_made w #[] 0 (Nat.le_refl _) (by decide) rfl
theorem ownPats_form {w : World} {base n : Nat} {v : Value} {F : Nat → Pat} (h : OwnPats w base v n F) : ∃ A c, v = .slice A n c ∧ n ≤ c ∧ PatsAt w base A n F := by
  rcases h.2 with ⟨rfl, hx⟩ | ⟨g, cap, cur, rfl, hb, hg, hnc, hm, hsz, htake⟩
  · subst hx
    exact ⟨_, _, rfl, Nat.le_refl _, PatsAt.nil_⟩
  · exact ⟨_, _, rfl, hnc, OwnPats.nums h⟩
theorem PatsAt.part {w : World} {lo n : Nat} {A : Option Addr} {F : Nat → Pat} (h : PatsAt w lo A n F) {j : Nat} (hj : j < n * 3) : ∃ b o, A = some ⟨b, o, none⟩ ∧ w.cell? ⟨b, o + j, none⟩ = some (.int .i64 ((F (j / 3)).part (j % 3))) := by
  obtain ⟨b, o, rfl, -, -, h0, h1, h2⟩ := h (j / 3) (by omega)
  refine ⟨b, o, rfl, ?_⟩
  have hlt := Nat.mod_lt j (show 0 < 3 by decide)
  have hd := Nat.div_add_mod j 3
  obtain e | e | e : j % 3 = 0 ∨ j % 3 = 1 ∨ j % 3 = 2 := by omega
  · rw [e, show o + j = o + j / 3 * 3 by omega]; exact h0
  · rw [e, show o + j = o + j / 3 * 3 + 1 by omega]; exact h1
  · rw [e, show o + j = o + j / 3 * 3 + 2 by omega]; exact h2
set_option maxRecDepth 100000 in
theorem run_append_Pats (w : World) (ty : TypeId) (base lo : Nat) (v : Value) (n : Nat) (F : Nat → Pat) (hown : OwnPats w base v n F)
    (A : Option Addr) (m c : Nat) (G : Nat → Pat) (hr : PatsAt w lo A m G) (hnm : n + m ≤ 100000000) (hbase : base ≤ w.heap.size) :
    ∃ v' w', (Builtin.append_ #[43, 43] ty #[v, .slice A m c]).run Try.prog w = .ok v' w' ∧ OwnPats w' base v' (n + m) (catPat n F G) ∧ Below base w w' ∧ w.grownBy w' v.ownBlock ∧ (v'.ownBlock = v.ownBlock ∨ v'.ownBlock = some w.heap.size) := by
  obtain ⟨i0, hi, hz0, hz1, hz2⟩ := info_parts patInfo
  cases A with
  | none =>
    have hm : m = 0 := by
      rcases Nat.eq_zero_or_pos m with h0 | h0
      · exact h0
      · obtain ⟨b, o, e, -⟩ := hr 0 h0
        cases e
    subst hm
    have hrun : (Builtin.append_ #[43, 43] ty #[v, .slice none 0 c]).run Try.prog w = .ok v w := by
      rcases hown.2 with ⟨rfl, -⟩ | ⟨g, cap, cur, rfl, -, -, hnc, -⟩
      · simp [Builtin.append_, run_underlying Try.underlying43, sizeOf, typeInfo, hi, Builtin.lenOf, Builtin.firstCells]
      · simp [Builtin.append_, run_underlying Try.underlying43, sizeOf, typeInfo, hi, Builtin.lenOf, Builtin.firstCells, hnc, storeCells]
    exact ⟨v, w, hrun, OwnPats.congr (F := F) hown fun j hj => by unfold catPat; rw [if_pos (show j < n by omega)], Below.refl _ _, ⟨rfl, rfl, rfl, Nat.le_refl _, fun _ _ _ => rfl⟩, .inl rfl⟩
  | some ad =>
    obtain ⟨v', w', hrun, hown', hg, -, hob⟩ := run_append_own_at (P := Try.prog) w base 43 ty 41 i0 (.agg #[.int .i64 0, .int .i64 0, .int .i64 0]) 3 24 Try.underlying43 hi hz0 hz1 hz2 rfl (by decide) v n _ hown ad m c (patVals m G) (by rw [patVals_len])
      (fun j u hu => by
        rw [patVals_get] at hu
        split at hu
        · rename_i hj
          obtain ⟨b, o, e, hc⟩ := hr.part hj
          injection e with e
          subst e
          injection hu with hu
          subst hu
          rw [Addr.add_lit]
          exact hc
        · cases hu)
      (fun u hu => by
        obtain ⟨j, -, rfl⟩ := List.mem_map.1 hu
        rfl) (by unfold maxLen; omega) (by omega) hbase
    rw [patVals_cat] at hown'
    exact ⟨v', w', hrun, hown', (Below.refl _ _).grown hg hbase (fun k hk => (World.ownsRow.lt hown k hk).1), hg, hob⟩
theorem wp_append_Pats {o : Oper} {a : Act} {K : Act → World → Prop} {Q : Exit → Act → World → Prop} (w : World) (s x : Operand)
    (ho : o.op = .call { callee := .builtin .append, args := #[s, x], argTypes := #[43, 43] })
    (base lo : Nat) (v : Value) (n : Nat) (F : Nat → Pat) (hs : a.eval s = v) (hown : OwnPats w base v n F)
    (A : Option Addr) (m c : Nat) (G : Nat → Pat) (hx : a.eval x = .slice A m c) (hr : PatsAt w lo A m G) (hnm : n + m ≤ 100000000) (hbase : base ≤ w.heap.size)
    (h : ∀ v' w', OwnPats w' base v' (n + m) (catPat n F G) → Below base w w' → w.grownBy w' v.ownBlock → (v'.ownBlock = v.ownBlock ∨ v'.ownBlock = some w.heap.size) → K (a.put o.dst v') w') : o.wp Try.prog a w K Q := by
  obtain ⟨v', w', hrun, h1, h2, h3, h4⟩ := run_append_Pats w o.type base lo v n F hown A m c G hr hnm hbase
  unfold Oper.wp execOp
  simp only [ho, resolve, invoke, builtin, Sem.run_bind, Sem.run_pure, Result.andThen_ok, List.map_toArray, List.map_cons, List.map_nil, hs, hx, hrun]
  exact h v' w' h1 h2 h3 h4
theorem wpList_append_Pats {ops : Array Oper} {rest : List Oper} {o : Oper} {a : Act} {Q : Exit → Act → World → Prop} (w : World) (hgd : o.guard = none) (s x : Operand)
    (ho : o.op = .call { callee := .builtin .append, args := #[s, x], argTypes := #[43, 43] })
    (base lo : Nat) (v : Value) (n : Nat) (F : Nat → Pat) (hs : a.eval s = v) (hown : OwnPats w base v n F)
    (A : Option Addr) (m c : Nat) (G : Nat → Pat) (hx : a.eval x = .slice A m c) (hr : PatsAt w lo A m G) (hnm : n + m ≤ 100000000) (hbase : base ≤ w.heap.size)
    (h : ∀ v' w', OwnPats w' base v' (n + m) (catPat n F G) → Below base w w' → wpList Try.prog ops Q rest (a.put o.dst v') w') : wpList Try.prog ops Q (o :: rest) a w :=
  wpList_plain hgd fun _ hK => wp_append_Pats w s x ho base lo v n F hs hown A m c G hx hr hnm hbase fun v' w' h1 h2 _ _ => hK _ _ (h v' w' h1 h2)
theorem stepG_append_Pats {ops : Array Oper} {o : Oper} {a : Act} {K : Act → World → Prop} {Q : Exit → Act → World → Prop} {E : Prop} (w : World) (hgd : o.guard = none) (s x : Operand)
    (ho : o.op = .call { callee := .builtin .append, args := #[s, x], argTypes := #[43, 43] })
    (base lo : Nat) (v : Value) (n : Nat) (F : Nat → Pat) (hs : a.eval s = v) (hown : OwnPats w base v n F)
    (A : Option Addr) (m c : Nat) (G : Nat → Pat) (hx : a.eval x = .slice A m c) (hr : PatsAt w lo A m G) (hnm : n + m ≤ 100000000) (hbase : base ≤ w.heap.size)
    (h : ∀ v' w', OwnPats w' base v' (n + m) (catPat n F G) → Below base w w' → w.grownBy w' v.ownBlock → (v'.ownBlock = v.ownBlock ∨ v'.ownBlock = some w.heap.size) → K (a.put o.dst v') w') :
    if Region.wanted o (yielded ops a.tmps) = true then Oper.wp Try.prog o a w K Q else E := by
  have hw : Region.wanted o (yielded ops a.tmps) = true := by simp [Region.wanted, hgd]
  rw [if_pos hw]
  exact wp_append_Pats w s x ho base lo v n F hs hown A m c G hx hr hnm hbase h
theorem step_append_Pats {ops : Array Oper} {o : Oper} {a : Act} {K : Act → World → Prop} {Q : Exit → Act → World → Prop} {E : Prop} (w : World) (hgd : o.guard = none) (s x : Operand)
    (ho : o.op = .call { callee := .builtin .append, args := #[s, x], argTypes := #[43, 43] })
    (base lo : Nat) (v : Value) (n : Nat) (F : Nat → Pat) (hs : a.eval s = v) (hown : OwnPats w base v n F)
    (A : Option Addr) (m c : Nat) (G : Nat → Pat) (hx : a.eval x = .slice A m c) (hr : PatsAt w lo A m G) (hnm : n + m ≤ 100000000) (hbase : base ≤ w.heap.size)
    (h : ∀ v' w', OwnPats w' base v' (n + m) (catPat n F G) → Below base w w' → K (a.put o.dst v') w') :
    if Region.wanted o (yielded ops a.tmps) = true then Oper.wp Try.prog o a w K Q else E := by
  have hw : Region.wanted o (yielded ops a.tmps) = true := by simp [Region.wanted, hgd]
  rw [if_pos hw]
  exact wp_append_Pats w s x ho base lo v n F hs hown A m c G hx hr hnm hbase fun v' w' h1 h2 _ _ => h v' w' h1 h2
end Go.Proofs.Ytcndeegfkgfnkaa
/- An append to a slice of numbers that the call made. -/
namespace Go.Proofs.Ytcndeegfkgfnkaa
open Go.RowKit
/-- F, and then G. -/
def catN (n : Nat) (F G : Nat → Num) : Nat → Num := fun j => if j < n then F j else G (j - n)
theorem numVals_cat (n m : Nat) (F G : Nat → Num) : numVals n F ++ numVals m G = numVals (n + m) (catN n F G) := by
  apply List.ext_getElem?
  intro j
  rw [List.getElem?_append, numVals_len, numVals_get, numVals_get, numVals_get]
  unfold catN
  by_cases h1 : j < n * 4
  · rw [if_pos h1, if_pos h1, if_pos (by omega), if_pos (by omega)]
  · rw [if_neg h1]
    by_cases h2 : j - n * 4 < m * 4
    · rw [if_pos h2, if_pos (by omega), if_neg (by omega), show (j - n * 4) / 4 = j / 4 - n by omega, show (j - n * 4) % 4 = j % 4 by omega]
    · rw [if_neg h2, if_neg (by omega)]
theorem ownNums_nil (w : World) (base : Nat) (F : Nat → Num) : OwnNums w base (.slice none 0 0) 0 F := World.ownsRow_nil _ _ _ _
theorem ownNums_form {w : World} {base n : Nat} {v : Value} {F : Nat → Num} (h : OwnNums w base v n F) : ∃ A c, v = .slice A n c ∧ n ≤ c ∧ NumsAt w base A n F := by
  rcases h.2 with ⟨rfl, hx⟩ | ⟨g, cap, cur, rfl, hb, hg, hnc, hm, hsz, htake⟩
  · subst hx
    exact ⟨_, _, rfl, Nat.le_refl _, NumsAt.nil_⟩
  · exact ⟨_, _, rfl, hnc, OwnNums.nums h⟩
theorem NumsAt.part {w : World} {lo n : Nat} {A : Option Addr} {F : Nat → Num} (h : NumsAt w lo A n F) {j : Nat} (hj : j < n * 4) : ∃ b o, A = some ⟨b, o, none⟩ ∧ w.cell? ⟨b, o + j, none⟩ = some (.int .i64 ((F (j / 4)).part (j % 4))) := by
  obtain ⟨b, o, rfl, -, -, h0, h1, h2, h3⟩ := h (j / 4) (by omega)
  refine ⟨b, o, rfl, ?_⟩
  have hlt := Nat.mod_lt j (show 0 < 4 by decide)
  have hd := Nat.div_add_mod j 4
  obtain e | e | e | e : j % 4 = 0 ∨ j % 4 = 1 ∨ j % 4 = 2 ∨ j % 4 = 3 := by omega
  · rw [e, show o + j = o + j / 4 * 4 by omega]; exact h0
  · rw [e, show o + j = o + j / 4 * 4 + 1 by omega]; exact h1
  · rw [e, show o + j = o + j / 4 * 4 + 2 by omega]; exact h2
  · rw [e, show o + j = o + j / 4 * 4 + 3 by omega]; exact h3
set_option maxRecDepth 100000 in
theorem run_append_nums (w : World) (ty : TypeId) (base lo : Nat) (v : Value) (n : Nat) (F : Nat → Num) (hown : OwnNums w base v n F)
    (A : Option Addr) (m c : Nat) (G : Nat → Num) (hr : NumsAt w lo A m G) (hnm : n + m ≤ 100000000) (hbase : base ≤ w.heap.size) :
    ∃ v' w', (Builtin.append_ #[44, 44] ty #[v, .slice A m c]).run Try.prog w = .ok v' w' ∧ OwnNums w' base v' (n + m) (catN n F G) ∧ Below base w w' := by
  obtain ⟨i0, hi, hz0, hz1, hz2⟩ := info_parts numInfo
  cases A with
  | none =>
    have hm : m = 0 := by
      rcases Nat.eq_zero_or_pos m with h0 | h0
      · exact h0
      · obtain ⟨b, o, e, -⟩ := hr 0 h0
        cases e
    subst hm
    have hrun : (Builtin.append_ #[44, 44] ty #[v, .slice none 0 c]).run Try.prog w = .ok v w := by
      rcases hown.2 with ⟨rfl, -⟩ | ⟨g, cap, cur, rfl, -, -, hnc, -⟩
      · simp [Builtin.append_, run_underlying Try.underlying44, sizeOf, typeInfo, hi, Builtin.lenOf, Builtin.firstCells]
      · simp [Builtin.append_, run_underlying Try.underlying44, sizeOf, typeInfo, hi, Builtin.lenOf, Builtin.firstCells, hnc, storeCells]
    exact ⟨v, w, hrun, OwnNums.congr (F := F) hown fun j hj => by unfold catN; rw [if_pos (show j < n by omega)], Below.refl _ _⟩
  | some ad =>
    obtain ⟨v', w', hrun, hown', hg, -, -⟩ := run_append_own_at (P := Try.prog) w base 44 ty 46 i0 (.agg #[.int .i64 0, .int .i64 0, .int .i64 0, .int .i64 0]) 4 32 Try.underlying44 hi hz0 hz1 hz2 rfl (by decide) v n _ hown ad m c (numVals m G) (by rw [numVals_len])
      (fun j u hu => by
        rw [numVals_get] at hu
        split at hu
        · rename_i hj
          obtain ⟨b, o, e, hc⟩ := hr.part hj
          injection e with e
          subst e
          injection hu with hu
          subst hu
          rw [Addr.add_lit]
          exact hc
        · cases hu)
      (fun u hu => by
        obtain ⟨j, -, rfl⟩ := List.mem_map.1 hu
        rfl) (by unfold maxLen; omega) (by omega) hbase
    rw [numVals_cat] at hown'
    exact ⟨v', w', hrun, hown', (Below.refl _ _).grown hg hbase (fun k hk => (World.ownsRow.lt hown k hk).1)⟩
theorem wp_append_nums {o : Oper} {a : Act} {K : Act → World → Prop} {Q : Exit → Act → World → Prop} (w : World) (s x : Operand)
    (ho : o.op = .call { callee := .builtin .append, args := #[s, x], argTypes := #[44, 44] })
    (base lo : Nat) (v : Value) (n : Nat) (F : Nat → Num) (hs : a.eval s = v) (hown : OwnNums w base v n F)
    (A : Option Addr) (m c : Nat) (G : Nat → Num) (hx : a.eval x = .slice A m c) (hr : NumsAt w lo A m G) (hnm : n + m ≤ 100000000) (hbase : base ≤ w.heap.size)
    (h : ∀ v' w', OwnNums w' base v' (n + m) (catN n F G) → Below base w w' → K (a.put o.dst v') w') : o.wp Try.prog a w K Q := by
  obtain ⟨v', w', hrun, h1, h2⟩ := run_append_nums w o.type base lo v n F hown A m c G hr hnm hbase
  unfold Oper.wp execOp
  simp only [ho, resolve, invoke, builtin, Sem.run_bind, Sem.run_pure, Result.andThen_ok, List.map_toArray, List.map_cons, List.map_nil, hs, hx, hrun]
  exact h v' w' h1 h2
theorem wpList_append_nums {ops : Array Oper} {rest : List Oper} {o : Oper} {a : Act} {Q : Exit → Act → World → Prop} (w : World) (hgd : o.guard = none) (s x : Operand)
    (ho : o.op = .call { callee := .builtin .append, args := #[s, x], argTypes := #[44, 44] })
    (base lo : Nat) (v : Value) (n : Nat) (F : Nat → Num) (hs : a.eval s = v) (hown : OwnNums w base v n F)
    (A : Option Addr) (m c : Nat) (G : Nat → Num) (hx : a.eval x = .slice A m c) (hr : NumsAt w lo A m G) (hnm : n + m ≤ 100000000) (hbase : base ≤ w.heap.size)
    (h : ∀ v' w', OwnNums w' base v' (n + m) (catN n F G) → Below base w w' → wpList Try.prog ops Q rest (a.put o.dst v') w') : wpList Try.prog ops Q (o :: rest) a w :=
  wpList_plain hgd fun _ hK => wp_append_nums w s x ho base lo v n F hs hown A m c G hx hr hnm hbase fun v' w' h1 h2 => hK _ _ (h v' w' h1 h2)
theorem step_append_nums {ops : Array Oper} {o : Oper} {a : Act} {K : Act → World → Prop} {Q : Exit → Act → World → Prop} {E : Prop} (w : World) (hgd : o.guard = none) (s x : Operand)
    (ho : o.op = .call { callee := .builtin .append, args := #[s, x], argTypes := #[44, 44] })
    (base lo : Nat) (v : Value) (n : Nat) (F : Nat → Num) (hs : a.eval s = v) (hown : OwnNums w base v n F)
    (A : Option Addr) (m c : Nat) (G : Nat → Num) (hx : a.eval x = .slice A m c) (hr : NumsAt w lo A m G) (hnm : n + m ≤ 100000000) (hbase : base ≤ w.heap.size)
    (h : ∀ v' w', OwnNums w' base v' (n + m) (catN n F G) → Below base w w' → K (a.put o.dst v') w') :
    if Region.wanted o (yielded ops a.tmps) = true then Oper.wp Try.prog o a w K Q else E := by
  have hw : Region.wanted o (yielded ops a.tmps) = true := by simp [Region.wanted, hgd]
  rw [if_pos hw]
  exact wp_append_nums w s x ho base lo v n F hs hown A m c G hx hr hnm hbase h
end Go.Proofs.Ytcndeegfkgfnkaa
/- within, IsSmall, EighthsErr, Turn, Plus of the reference; Mod of the base. -/
namespace Go.Proofs.Ytcndeegfkgfnkaa
open Go.RowKit
end Go.Proofs.Ytcndeegfkgfnkaa
/- The reference: CopyNumbers, NumbersErr, SamplesErr, Conj. -/
namespace Go.Proofs.Ytcndeegfkgfnkaa
open Go.RowKit
theorem OwnNums.empty (w : World) (g : Nat) (hg : g = w.heap.size) (F : Nat → Num) : OwnNums (w.alloc (.cells #[] 46)) w.heap.size (.slice (some ⟨g, 0, none⟩) 0 0) 0 F := by
  subst hg
  exact World.ownsRow_made w #[] 0 (Nat.le_refl _) (by decide) rfl
/-- The error of samples. -/
def sampE (n : Nat) (F : Nat → Num) : Int := if 120 < n then 8 else numsE 1000000000 F n
end Go.Proofs.Ytcndeegfkgfnkaa
/- The reference: Same, Conj, Shifted. -/
namespace Go.Proofs.Ytcndeegfkgfnkaa
open Go.RowKit
/-- Numbers that are turned on. -/
def shiftN (F : Nat → Num) (q : Int) (j : Nat) : Num := (F j).turns ((q * (j : Int)) % 8).toNat
end Go.Proofs.Ytcndeegfkgfnkaa
/- KnownErr of the reference; Shifted of the code. -/
namespace Go.Proofs.Ytcndeegfkgfnkaa
open Go.RowKit
theorem err_cases (M : Int) (x : Num) : x.err M = unI (x.isIn M) 2 := rfl
theorem offE_far {n m : Nat} {F G : Nat → Num} (h : n = 0 ∨ m ≠ n) : offE n m F G = 10 := by
  unfold offE
  rw [firstE, if_neg]
  · unfold unI
    rw [if_neg]
    simp
    omega
  · unfold unI
    rw [if_neg]
    · decide
    · simp
      omega
theorem offE_many {n : Nat} {F G : Nat → Num} (h : 16 < n) : offE n n F G = 8 := by
  unfold offE
  rw [firstE, if_pos, firstE, if_neg]
  · unfold unI; rw [if_neg]; simp; omega
  · unfold unI; rw [if_neg]
    · decide
    · simp; omega
  · unfold unI; rw [if_pos]; simp; omega
theorem offE_few {n : Nat} {F G : Nat → Num} (h0 : 0 < n) (h : n ≤ 16) : offE n n F G = firstE [numsE 100 F n, numsE 100 G n] := by
  unfold offE
  rw [firstE, if_pos, firstE, if_pos]
  · unfold unI; rw [if_pos]; simp; omega
  · unfold unI; rw [if_pos]; simp; omega
end Go.Proofs.Ytcndeegfkgfnkaa
/- samplesError and Shifted of the code. -/
namespace Go.Proofs.Ytcndeegfkgfnkaa
open Go.RowKit
theorem sampE_first (n : Nat) (F : Nat → Num) : firstE [unI (decide ((n : Int) ≤ 120)) 8, numsE 1000000000 F n] = sampE n F := by
  rw [firstE_two]
  unfold sampE twoE unI
  by_cases h : 120 < n
  · rw [if_pos h, if_neg (show ¬ decide ((n : Int) ≤ 120) = true by simp; omega), if_neg (by decide)]
  · rw [if_neg h, if_pos (show decide ((n : Int) ≤ 120) = true by simp; omega), if_pos rfl]
set_option maxHeartbeats 1000000 in
set_option maxRecDepth 100000 in
theorem samplesError_any (A : Option Addr) (n c : Nat) (F : Nat → Num) (w : World) (hn : n ≤ 100000) (hI : NumsAt w 0 A n F) :
    Calls Try.prog 28 #[.slice A n c] w fun e w' => e = .returned (.int .i64 (sampE n F)) ∧ Below w.heap.size w w' := by
  have HE := hide (sampE_first n F)
  have HX := hide (smallError_any A n c F w hn hI)
  clear hI
  generalize sampE n F = v at *
  go_enter Try.func28, Try.ntmps28
  go_wp2_with (go_at_call 22; refine (unless_any _ _ _).mono ?_; rintro e w' ⟨rfl, rfl⟩)
  refine HX.out.mono ?_
  rintro e w2 ⟨rfl, hb⟩
  go_wp2_with fail
  refine (firstError_laid [unI (decide ((n : Int) ≤ 120)) 8, numsE 1000000000 F n] 2 _ _ rfl (by decide)).mono ?_
  rintro e w3 ⟨rfl, hw3⟩
  rw [HE.out]
  have hB3 : Below w.heap.size w w3 := by rw [← hw3]; exact hb.alloc hb.size _
  clear hw3 hb
  go_wp2_with fail
  go_ret
  exact ⟨rfl, hB3⟩
/-- The error of samples that are turned on. -/
def shiftE (n : Nat) (F : Nat → Num) (q : Int) : Int := twoE (sampE n F) (unI (withinB q 0 7) 2)
theorem shiftE_zero {n : Nat} {F : Nat → Num} {q : Int} (h : shiftE n F q = 0) : n ≤ 120 ∧ (∀ j, j < n → (F j).Within 1000000000) ∧ 0 ≤ q ∧ q ≤ 7 := by
  unfold shiftE twoE at h
  by_cases h1 : sampE n F = 0
  · rw [if_pos h1] at h
    have h2 := unI_zero (by decide) h
    unfold sampE at h1
    by_cases h3 : 120 < n
    · rw [if_pos h3] at h1; exact absurd h1 (by decide)
    · rw [if_neg h3] at h1
      unfold withinB at h2
      simp at h2
      exact ⟨by omega, numsE_zero h1, by omega, by omega⟩
  · rw [if_neg h1] at h; exact absurd h h1
theorem ownNums_weak {w : World} {base base' n : Nat} {v : Value} {F : Nat → Num} (h : OwnNums w base v n F) (hb : base' ≤ base) : OwnNums w base' v n F :=
  ⟨h.1, h.2.elim Or.inl (fun ⟨g, cap, cur, hv, hg, r⟩ => Or.inr ⟨g, cap, cur, hv, Nat.le_trans hb hg, r⟩)⟩
/-- What Shifted hands back: n numbers, or none where there is an error. -/
def GaveShift (w' : World) (base : Nat) (v : Value) (n : Nat) (F : Nat → Num) (q V : Int) : Prop := OwnNums w' base v (if V = 0 then n else 0) (shiftN F q)
end Go.Proofs.Ytcndeegfkgfnkaa
/- Product of the reference. -/
namespace Go.Proofs.Ytcndeegfkgfnkaa
open Go.RowKit
end Go.Proofs.Ytcndeegfkgfnkaa
