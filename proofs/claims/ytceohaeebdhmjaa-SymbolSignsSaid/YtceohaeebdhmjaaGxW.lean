/- Lemmas: S89, S87, S88, S92, S98, S57, S58, S59, S21, S60, S94, Sa0, S97, S96, S93, S95, S90, S91, S99, S62, S61, S63, S64, Sa1. -/
import Derived.Laws.MakeOwn
import Derived.Test.YtceohaeebdhmjaaBk02
import Derived.Test.YtceohaeebdhmjaaBk06
import Derived.Test.YtceohaeebdhmjaaBk14
import Derived.Test.YtceohaeebdhmjaaBk17
import Derived.Test.YtceohaeebdhmjaaBk18
import Derived.Test.YtceohaeebdhmjaaBk19
import Derived.Test.YtceohaeebdhmjaaBk20
import Derived.Test.YtceohaeebdhmjaaBk21
import Derived.Test.YtceohaeebdhmjaaBk23
set_option linter.unusedVariables false
set_option linter.unusedSimpArgs false
/- Mathematics of hard bits: the nearest level, of two the lesser one. -/
namespace Go.Proofs.Ytceohaeebdhmjaa
open Go Go.RowKit Go.Lib
/-- Of the first k numbers: the one of the least distance D, of two the one of the lesser level; its distance, its level. -/
def hbJ (D lv : Nat → Int) : Nat → Nat × Int × Int
  | 0 => (0, 9223372036854775807, 0)
  | k + 1 => if D k < (hbJ D lv k).2.1 ∨ (D k = (hbJ D lv k).2.1 ∧ lv k < (hbJ D lv k).2.2) then (k, D k, lv k) else hbJ D lv k
theorem hbJ_facts {D lv : Nat → Int} (hD : ∀ j, D j < 9223372036854775807) : ∀ {k : Nat}, 0 < k → (hbJ D lv k).1 < k ∧ (hbJ D lv k).2.1 = D (hbJ D lv k).1 ∧ (hbJ D lv k).2.2 = lv (hbJ D lv k).1 ∧ ∀ j, j < k → D (hbJ D lv k).1 < D j ∨ (D (hbJ D lv k).1 = D j ∧ lv (hbJ D lv k).1 ≤ lv j)
  | 0, h => absurd h (Nat.lt_irrefl 0)
  | k + 1, _ => by
    unfold hbJ
    by_cases h : D k < (hbJ D lv k).2.1 ∨ (D k = (hbJ D lv k).2.1 ∧ lv k < (hbJ D lv k).2.2)
    · rw [if_pos h]
      refine ⟨Nat.lt_succ_self k, rfl, rfl, fun j hj => ?_⟩
      show D k < D j ∨ (D k = D j ∧ lv k ≤ lv j)
      by_cases e : j = k
      · subst e; exact .inr ⟨rfl, Int.le_refl _⟩
      · obtain ⟨-, h2, h3, h4⟩ := hbJ_facts (lv := lv) hD (k := k) (by omega)
        have h5 := h4 j (by omega)
        rw [h2, h3] at h
        omega
    · rw [if_neg h]
      by_cases e : k = 0
      · subst e
        exact absurd (.inl (hD 0)) h
      · obtain ⟨h1, h2, h3, h4⟩ := hbJ_facts (lv := lv) hD (k := k) (by omega)
        refine ⟨by omega, h2, h3, fun j hj => ?_⟩
        by_cases e2 : j = k
        · subst e2
          rw [h2, h3] at h
          omega
        · exact h4 j (by omega)
/-- The number whose bits are the hard bits of a part. -/
def hardJ (p g : Int) (c : Nat) : Nat := (hbJ (distF p g c) (fun j => lvl c (labF c j)) (2 ^ c)).1
def hardP (p g : Int) (c i : Nat) : Int := labF c (hardJ p g c) i
/-- Of the first k levels from lo on, each two more: the nearest, the first of them. -/
def rbL (D : Int → Int) (lo : Int) : Nat → Int
  | 0 => lo
  | t + 1 => if D (lo + 2 * (t : Int)) < D (rbL D lo t) then lo + 2 * (t : Int) else rbL D lo t
theorem rbL_facts {D : Int → Int} {lo : Int} : ∀ {t : Nat}, (∃ s : Nat, (s < t ∨ s = 0) ∧ rbL D lo t = lo + 2 * (s : Int)) ∧ ∀ s : Nat, s < t → D (rbL D lo t) < D (lo + 2 * (s : Int)) ∨ (D (rbL D lo t) = D (lo + 2 * (s : Int)) ∧ rbL D lo t ≤ lo + 2 * (s : Int))
  | 0 => ⟨⟨0, .inr rfl, by show lo = lo + 2 * ((0 : Nat) : Int); omega⟩, fun s h => absurd h (Nat.not_lt_zero s)⟩
  | t + 1 => by
    obtain ⟨⟨s0, h1, h2⟩, h3⟩ := rbL_facts (D := D) (lo := lo) (t := t)
    unfold rbL
    by_cases h : D (lo + 2 * (t : Int)) < D (rbL D lo t)
    · rw [if_pos h]
      refine ⟨⟨t, .inl (Nat.lt_succ_self t), rfl⟩, fun s hs => ?_⟩
      by_cases e : s = t
      · subst e; exact .inr ⟨rfl, Int.le_refl _⟩
      · have := h3 s (by omega); omega
    · rw [if_neg h]
      refine ⟨⟨s0, by omega, h2⟩, fun s hs => ?_⟩
      by_cases e : s = t
      · subst e
        by_cases e2 : s = 0
        · subst e2
          obtain rfl : s0 = 0 := by omega
          exact .inr ⟨by rw [h2], by rw [h2]; exact Int.le_refl _⟩
        · have h4 := h3 0 (by omega)
          by_cases e3 : D (rbL D lo s) = D (lo + 2 * (s : Int))
          · exact .inr ⟨e3, by rw [h2]; omega⟩
          · exact .inl (by omega)
      · exact h3 s (by omega)
def levHit (c : Nat) : Bool := (List.range (2 ^ c)).all fun j => (List.range (2 ^ c)).any fun s => lvl c (labF c j) == 1 - ((2 ^ c : Nat) : Int) + 2 * (s : Int)
def hitLev (c : Nat) : Bool := (List.range (2 ^ c)).all fun s => (List.range (2 ^ c)).any fun j => lvl c (labF c j) == 1 - ((2 ^ c : Nat) : Int) + 2 * (s : Int)
def oneLev (c : Nat) : Bool := (List.range (2 ^ c)).all fun j => (List.range (2 ^ c)).all fun k => j == k || !(lvl c (labF c j) == lvl c (labF c k))
theorem lev_hit {c : Nat} (h1 : 1 ≤ c) (h3 : c ≤ 3) {j : Nat} (hj : j < 2 ^ c) : ∃ s : Nat, s < 2 ^ c ∧ lvl c (labF c j) = 1 - ((2 ^ c : Nat) : Int) + 2 * (s : Int) := by
  have h : levHit c = true := by
    obtain rfl | rfl | rfl : c = 1 ∨ c = 2 ∨ c = 3 := by omega
    all_goals decide +kernel
  unfold levHit at h
  simp only [List.all_eq_true, List.any_eq_true, List.mem_range, beq_iff_eq] at h
  exact h j hj
theorem hit_lev {c : Nat} (h1 : 1 ≤ c) (h3 : c ≤ 3) {s : Nat} (hs : s < 2 ^ c) : ∃ j : Nat, j < 2 ^ c ∧ lvl c (labF c j) = 1 - ((2 ^ c : Nat) : Int) + 2 * (s : Int) := by
  have h : hitLev c = true := by
    obtain rfl | rfl | rfl : c = 1 ∨ c = 2 ∨ c = 3 := by omega
    all_goals decide +kernel
  unfold hitLev at h
  simp only [List.all_eq_true, List.any_eq_true, List.mem_range, beq_iff_eq] at h
  exact h s hs
theorem one_lev {c : Nat} (h1 : 1 ≤ c) (h3 : c ≤ 3) {j k : Nat} (hj : j < 2 ^ c) (hk : k < 2 ^ c) (he : lvl c (labF c j) = lvl c (labF c k)) : j = k := by
  have h : oneLev c = true := by
    obtain rfl | rfl | rfl : c = 1 ∨ c = 2 ∨ c = 3 := by omega
    all_goals decide +kernel
  unfold oneLev at h
  simp only [List.all_eq_true, List.mem_range, Bool.or_eq_true, beq_iff_eq, Bool.not_eq_true', beq_eq_false_iff_ne] at h
  rcases h j hj k hk with z | z
  · exact z
  · exact absurd he z
/-- The distance of a part from a level. -/
def distL (p g v : Int) : Int := ((p - g * v).natAbs : Int)
theorem distF_small {p g : Int} {c : Nat} (hp : -100000000 ≤ p ∧ p ≤ 100000000) (hg : 1 ≤ g ∧ g ≤ 10000000) (h1 : 1 ≤ c) (h3 : c ≤ 3) (j : Nat) : distF p g c j < 9223372036854775807 := by
  have := distF_le (j := j) hp hg h1 h3
  omega
/-- Both sides choose the same level. -/
theorem hard_level {p g : Int} {c : Nat} (hp : -100000000 ≤ p ∧ p ≤ 100000000) (hg : 1 ≤ g ∧ g ≤ 10000000) (h1 : 1 ≤ c) (h3 : c ≤ 3) :
    hardJ p g c < 2 ^ c ∧ lvl c (labF c (hardJ p g c)) = rbL (distL p g) (1 - ((2 ^ c : Nat) : Int)) (2 ^ c) ∧ ∀ j, j < 2 ^ c → distF p g c (hardJ p g c) ≤ distF p g c j := by
  have hN : 0 < 2 ^ c := Nat.pow_pos (by decide)
  obtain ⟨a1, -, -, a4⟩ := hbJ_facts (D := distF p g c) (lv := fun j => lvl c (labF c j)) (distF_small hp hg h1 h3) (k := 2 ^ c) hN
  obtain ⟨⟨s, b1, b2⟩, b3⟩ := rbL_facts (D := distL p g) (lo := 1 - ((2 ^ c : Nat) : Int)) (t := 2 ^ c)
  have hs : s < 2 ^ c := by omega
  refine ⟨a1, ?_, fun j hj => by have := a4 j hj; unfold hardJ; omega⟩
  obtain ⟨j, hj, ej⟩ := hit_lev h1 h3 hs
  obtain ⟨t, ht, et⟩ := lev_hit h1 h3 a1
  have c1 := a4 j hj
  have c2 := b3 t ht
  rw [← et] at c2
  rw [b2, ← ej] at c2 ⊢
  have d1 : ∀ k, distF p g c k = distL p g (lvl c (labF c k)) := fun _ => rfl
  rw [d1, d1] at c1
  unfold hardJ
  omega
end Go.Proofs.Ytceohaeebdhmjaa
/- The reference of received symbols: ReceivedErr, parts, square. -/
namespace Go.Proofs.Ytceohaeebdhmjaa
open Go Go.RowKit Go.Lib
set_option maxHeartbeats 4000000 in
set_option maxRecDepth 100000 in
theorem ReceivedErrR_any (k g : Int) (A : Option Addr) (n c : Nat) (F : Nat → Gau) (w : World) (hn : n ≤ 100000) (hI : GausAt w 0 A n F) :
    Calls Try.prog 39 #[.agg #[.int .i64 k, .int .i64 g, .slice A n c]] w fun e w' => e = .returned (.int .i64 (recvE k g n F)) ∧ Below w.heap.size w w' := by
  have HO := hide (fun W => OrderErr_any k W)
  have HW := hide (fun W => within_any g 1 10000000 W)
  have HS := hide (fun W h => SymbolsErrR_any A n c F W hn h)
  have HE := hide (show recvE k g n F = if ordE k = 0 then if withinB g 1 10000000 = true then symsE n F else 2 else ordE k from rfl)
  have HI := hide hI
  obtain ⟨E, hE⟩ : ∃ z, recvE k g n F = z := ⟨_, rfl⟩
  rw [hE] at HE ⊢
  obtain ⟨o, ho⟩ : ∃ z, ordE k = z := ⟨_, rfl⟩
  rw [ho] at HE
  simp only [ho] at HO
  obtain ⟨s, hs⟩ : ∃ z, symsE n F = z := ⟨_, rfl⟩
  rw [hs] at HE
  simp only [hs] at HS
  clear hE ho hs hI
  go_enter Try.func39, Try.ntmps39
  go_upto_region 1 with fail
  obtain ⟨w1, hw1⟩ : ∃ z : World, z = w.alloc (.cells #[.int .i64 k, .int .i64 g, .slice A n c] 58) := ⟨_, rfl⟩
  try rw [← hw1]
  have HX := hide (show Box w1 w.heap.size 58 #[.int .i64 k, .int .i64 g, .slice A n c] by rw [hw1]; exact Box.made rfl)
  have HB := hide (show Below w.heap.size w w1 by rw [hw1]; (repeat (first | (with_reducible exact Below.refl _ _) | (with_reducible refine Go.below_drewN ?_ _) | (with_reducible refine Below.drew ?_) | (with_reducible refine Below.alloc ?_ (by first | exact Nat.le_refl _ | (simp; done) | (simp; omega) | omega) _) | (with_reducible refine Below.setCell ?_ (by first | exact Nat.le_refl _ | (simp; done) | (simp; omega) | omega) _))))
  clear hw1
  obtain ⟨x0, x1, x2, hx⟩ := rec_cells HX.out
  go_wp2_with fail
  refine (HO.out _).mono ?_
  rintro e_ v_ ⟨rfl, rfl⟩
  clear HO
  by_cases hz : o = 0
  case neg =>
    obtain rfl : E = o := HE.out.trans (if_neg hz)
    have t1 : (E != 0) = true := by simpa using hz
    clear HE HS HW hz
    go_wp2_with fail
    go_ret
    exact ⟨rfl, HB.out⟩
  subst hz
  replace HE := hide (HE.out.trans (if_pos rfl))
  have t1 : ((0 : Int) != 0) = false := by decide
  by_cases hg : 1 ≤ g ∧ g ≤ 10000000
  case neg =>
    simp only [withinB_no hg] at HW HE
    obtain rfl : E = 2 := HE.out.trans (if_neg (by decide))
    clear HE HS hg
    go_wp2_with fail
    refine (HW.out _).mono ?_
    rintro e_ v_ ⟨rfl, rfl⟩
    go_wp2_with fail
    go_ret
    exact ⟨rfl, HB.out⟩
  simp only [withinB_yes hg] at HW HE
  obtain rfl : E = s := by have h9 := HE.out; simpa using h9
  clear HE hg
  go_wp2_with fail
  refine (HW.out _).mono ?_
  rintro e_ v_ ⟨rfl, rfl⟩
  go_wp2_with fail
  refine (HS.out _ (HI.out.below HB.out)).mono ?_
  rintro e_ w2 ⟨rfl, hb2⟩
  have HB2 := hide (HB.out.trans (hb2.mono HB.out.size))
  clear hb2 x0 x1 x2 hx
  go_wp2_with fail
  go_ret
  exact ⟨rfl, HB2.out⟩
theorem parts_any (x : Gau) (w : World) :
    Calls Try.prog 79 #[.agg #[.int .i64 x.re, .int .i64 x.im]] w fun e w' => e = .returned (.agg #[.int .i64 x.re, .int .i64 x.im]) ∧ Below w.heap.size w w' := by
  go_enter Try.func79, Try.ntmps79
  go_wp2_with fail
  have hb : Box ((w.alloc (.cells #[.int .i64 x.re, .int .i64 x.im] 43)).alloc (.cells #[.int .i64 x.re, .int .i64 x.im] 105)) (w.heap.size + 1) 105 #[.int .i64 x.re, .int .i64 x.im] := Box.made (by simp)
  obtain ⟨y0, y1⟩ := pairS_cells hb
  refine bodyPost_ret (v := .agg #[.int .i64 x.re, .int .i64 x.im]) ?_ rfl ⟨rfl, by (repeat (first | (with_reducible exact Below.refl _ _) | (with_reducible refine Go.below_drewN ?_ _) | (with_reducible refine Below.drew ?_) | (with_reducible refine Below.alloc ?_ (by first | exact Nat.le_refl _ | (simp; done) | (simp; omega) | omega) _) | (with_reducible refine Below.setCell ?_ (by first | exact Nat.le_refl _ | (simp; done) | (simp; omega) | omega) _)))⟩
  simp [results, Try.results79, go_sem, y0, y1]
theorem square_any (x : Int) (w : World) (hx : -3000000000 ≤ x ∧ x ≤ 3000000000) :
    Calls Try.prog 105 #[.int .i64 x] w fun e w' => e = .returned (.int .i64 (x * x)) ∧ w' = w := by
  have h := mul_size hx hx
  have q : IntKind.i64.wrap (x * x) = x * x := IntWalk.i64_in _ (by omega)
  clear hx h
  go_enter Try.func105, Try.ntmps105
  go_wp2_with fail
  go_ret
  exact ⟨rfl, rfl⟩
end Go.Proofs.Ytceohaeebdhmjaa
/- CopyReceived of the reference, scaled of the code. -/
namespace Go.Proofs.Ytceohaeebdhmjaa
open Go Go.RowKit Go.Lib
theorem OwnGaus.blockLtR {w : World} {base n k : Nat} {v : Value} {F : Nat → Gau} (h : OwnGaus w base v n F) (hk : v.ownBlock = some k) : base ≤ k ∧ k < w.heap.size := World.ownsRow.lt h k hk
theorem Box.r3h {w : World} {b : Nat} {t : TypeId} {x y z : Value} (h : Box w b t #[x, y, z]) : w.cell? ⟨b, 0, none⟩ = some x ∧ w.cell? ⟨b, 1, none⟩ = some y ∧ w.cell? ⟨b, 2, none⟩ = some z ∧ w.frozen? ⟨b, 0, none⟩ = false ∧ w.frozen? ⟨b, 1, none⟩ = false ∧ w.frozen? ⟨b, 2, none⟩ = false ∧ b < w.heap.size := ⟨h.at_ 0, h.at_ 1, h.at_ 2, h.free 0, h.free 1, h.free 2, h.lt⟩
theorem Box.r3hput {w : World} {b : Nat} {t : TypeId} {x y z : Value} (h : Box w b t #[x, y, z]) (u0 u1 u2 : Value) : Box (((w.setCell ⟨b, 0, none⟩ u0).setCell ⟨b, 1, none⟩ u1).setCell ⟨b, 2, none⟩ u2) b t #[u0, u1, u2] := by
  have := ((h.set_ 0 u0).set_ 1 u1).set_ 2 u2
  simpa using this
set_option maxHeartbeats 4000000 in
set_option maxRecDepth 100000 in
theorem CopyReceived_any (k gn : Int) (A : Option Addr) (n c : Nat) (F : Nat → Gau) (w : World) (hn : n ≤ 100000) (hI : GausAt w 0 A n F) :
    Calls Try.prog 36 #[.agg #[.int .i64 k, .int .i64 gn, .slice A n c]] w fun e w' => ∃ C d, e = .returned (.agg #[.int .i64 k, .int .i64 gn, .slice C n d]) ∧ OwnGaus w' w.heap.size (.slice C n d) n F ∧ Below w.heap.size w w' := by
  have HI := hide hI
  have HC1 := hide (fun W (h : GausAt W 0 A n F) => copyGaus_own A n c F W (by omega) h)
  clear hI
  go_enter Try.func36, Try.ntmps36
  go_upto_region 1 with fail
  obtain ⟨w_1, hw_1⟩ : ∃ q : World, q = ((w.alloc (.cells #[.int .i64 k, .int .i64 gn, .slice A n c] 58)).alloc (.cells #[.int .i64 0, .int .i64 0, .slice none 0 0] 58)) := ⟨_, rfl⟩
  try rw [← hw_1]
  have HX0 := hide (show Box w_1 (w.heap.size) 58 #[.int .i64 k, .int .i64 gn, .slice A n c] by rw [hw_1]; exact (Box.made rfl).alloc _)
  have HX1 := hide (show Box w_1 (w.heap.size + 1) 58 #[.int .i64 0, .int .i64 0, .slice none 0 0] by rw [hw_1]; exact Box.made (by simp))
  have HB := hide (show Below w.heap.size w w_1 by rw [hw_1]; (repeat (first | (with_reducible exact Below.refl _ _) | (with_reducible refine Go.below_drewN ?_ _) | (with_reducible refine Below.drew ?_) | (with_reducible refine Below.alloc ?_ (by first | exact Nat.le_refl _ | (simp; done) | (simp; omega) | omega) _) | (with_reducible refine Below.setCell ?_ (by first | exact Nat.le_refl _ | (simp; done) | (simp; omega) | omega) _))))
  clear hw_1
  refine wp_region_held_drew (S := fun w' => w'.cell? ⟨w.heap.size, 0, none⟩ = some (.int .i64 k) ∧ w'.cell? ⟨w.heap.size, 1, none⟩ = some (.int .i64 gn) ∧ w'.cell? ⟨w.heap.size, 2, none⟩ = some (.slice A n c)) (by kernel_rfl) ⟨HX0.out.at_ 0, HX0.out.at_ 1, HX0.out.at_ 2⟩ (fun hHeld => ?_)
  obtain ⟨w_2, hw_2⟩ : ∃ q : World, q = w_1.drew := ⟨_, rfl⟩
  rw [← hw_2] at hHeld ⊢
  have hc_2 : Below w_1.heap.size w_1 w_2 := by rw [hw_2]; exact (Below.refl _ _).drew
  clear hw_2
  replace HX0 := hide (HX0.out.below hc_2)
  replace HX1 := hide (HX1.out.below hc_2)
  replace HB := hide (HB.out.trans (hc_2.mono HB.out.size))
  clear hc_2
  refine wpAnyH_take (i := 0) (oi := ⟨some 3, _, _, _, _, _⟩) (v := ?_) rfl (by kernel_rfl) (by kernel_rfl) (by kernel_rfl) (fun _ _ _ h => h) (Or.inl ⟨by rfl, ?_⟩) (by assumption) ?_
  rotate_left
  · (intro w' hSw; (try dsimp only at hSw); go_simp <;> (with_reducible rfl))
  try simp only [Act.put, List.setIfInBounds_toArray, List.set_cons_zero, List.set_cons_succ]
  refine wpAnyH_take (i := 1) (oi := ⟨some 4, _, _, _, _, _⟩) (v := ?_) rfl (by kernel_rfl) (by kernel_rfl) (by kernel_rfl) (fun _ _ _ h => h) (Or.inl ⟨by rfl, ?_⟩) (by assumption) ?_
  rotate_left
  · (intro w' hSw; (try dsimp only at hSw); go_simp <;> (with_reducible rfl))
  try simp only [Act.put, List.setIfInBounds_toArray, List.set_cons_zero, List.set_cons_succ]
  refine wpAnyH_take (i := 2) (oi := ⟨some 5, _, _, _, _, _⟩) (v := ?_) rfl (by kernel_rfl) (by kernel_rfl) (by kernel_rfl) (fun _ _ _ h => h) (Or.inl ⟨by rfl, ?_⟩) (by assumption) ?_
  rotate_left
  · (intro w' hSw; (try dsimp only at hSw); go_simp <;> (with_reducible rfl))
  try simp only [Act.put, List.setIfInBounds_toArray, List.set_cons_zero, List.set_cons_succ]
  refine wpAnyH_take (i := 3) (oi := ⟨some 6, _, _, _, _, _⟩) (v := ?_) rfl (by kernel_rfl) (by kernel_rfl) (by kernel_rfl) (fun _ _ _ h => h) (Or.inl ⟨by rfl, ?_⟩) (by assumption) ?_
  rotate_left
  · (intro w' hSw; (try dsimp only at hSw); go_simp <;> (with_reducible rfl))
  try simp only [Act.put, List.setIfInBounds_toArray, List.set_cons_zero, List.set_cons_succ]
  refine wpAnyH_take (i := 4) (oi := ⟨some 7, _, _, _, _, _⟩) (v := ?_) rfl (by kernel_rfl) (by kernel_rfl) (by kernel_rfl) (fun _ _ _ h => h) (Or.inl ⟨by rfl, ?_⟩) (by assumption) ?_
  rotate_left
  · (intro w' hSw; (try dsimp only at hSw); go_simp <;> (with_reducible rfl))
  try simp only [Act.put, List.setIfInBounds_toArray, List.set_cons_zero, List.set_cons_succ]
  refine wpAnyH_take (i := 5) (oi := ⟨some 8, _, _, _, _, _⟩) (v := ?_) rfl (by kernel_rfl) (by kernel_rfl) (by kernel_rfl) (fun _ _ _ h => h) (Or.inl ⟨by rfl, ?_⟩) (by assumption) ?_
  rotate_left
  · (intro w' hSw; (try dsimp only at hSw); go_simp <;> (with_reducible rfl))
  try simp only [Act.put, List.setIfInBounds_toArray, List.set_cons_zero, List.set_cons_succ]
  refine wpAnyH_ready (rs := [6]) (by kernel_rfl) (by simp) ?_
  refine AllReadyH.cons (o := ⟨some 9, _, _, _, _, _⟩) rfl (fun K' hK => ?_) AllReadyH.nil
  go_simp
  go_at_call 18
  have hz1 : w.heap.size + 2 ≤ w_2.heap.size := HX1.out.lt
  refine (HC1.out _ (HI.out.below HB.out)).mono ?_
  rintro e_ w_3 ⟨v1, rfl, ho1, hb_3⟩
  replace HX0 := hide (HX0.out.below hb_3)
  replace HX1 := hide (HX1.out.below hb_3)
  replace HB := hide (HB.out.trans (hb_3.mono HB.out.size))
  clear hb_3
  obtain ⟨C, d, rfl, -, -⟩ := ownGaus_form ho1
  have HO1 := hide (ho1.weak hz1)
  clear ho1 hz1
  go_wp2_with fail
  refine hK.out _ _ ⟨HX0.out.at_ 0, HX0.out.at_ 1, HX0.out.at_ 2⟩ (fun hHeld => ?_)
  clear hK K'
  try simp only [Act.put, List.setIfInBounds_toArray, List.set_cons_zero, List.set_cons_succ]
  refine wpAnyH_take (i := 7) (oi := ⟨some 10, _, _, _, _, _⟩) (v := ?_) rfl (by kernel_rfl) (by kernel_rfl) (by kernel_rfl) (fun _ _ _ h => h) (Or.inl ⟨by rfl, ?_⟩) (by assumption) ?_
  rotate_left
  · (intro w' hSw; (try dsimp only at hSw); go_simp <;> (with_reducible rfl))
  try simp only [Act.put, List.setIfInBounds_toArray, List.set_cons_zero, List.set_cons_succ]
  refine wpAnyH_ready (rs := [8]) (by kernel_rfl) (by simp) ?_
  refine AllReadyH.cons (o := ⟨none, _, _, _, _, _⟩) rfl (fun K' hK => ?_) AllReadyH.nil
  obtain ⟨y0, y1, y2, k0, k1, k2, hly⟩ := HX1.out.r3h
  go_simp
  clear y0 y1 y2 k0 k1 k2 hly
  replace HX0 := hide (((HX0.out.other (p := ⟨w.heap.size + 1, 0, none⟩) (by show w.heap.size ≠ w.heap.size + 1; omega) (.int .i64 k)).other (p := ⟨w.heap.size + 1, 1, none⟩) (by show w.heap.size ≠ w.heap.size + 1; omega) (.int .i64 gn)).other (p := ⟨w.heap.size + 1, 2, none⟩) (by show w.heap.size ≠ w.heap.size + 1; omega) (.slice C n d))
  replace HX1 := hide (HX1.out.r3hput (.int .i64 k) (.int .i64 gn) (.slice C n d))
  replace HB := hide (((HB.out.setCell (p := ⟨w.heap.size + 1, 0, none⟩) (Nat.le_succ _) (.int .i64 k)).setCell (p := ⟨w.heap.size + 1, 1, none⟩) (Nat.le_succ _) (.int .i64 gn)).setCell (p := ⟨w.heap.size + 1, 2, none⟩) (Nat.le_succ _) (.slice C n d))
  have hof : ∀ z, (Value.slice C n d).ownBlock = some z → z ≠ w.heap.size + 1 := fun z hz => by have := (HO1.out.blockLtR hz).1; omega
  replace HO1 := hide (((HO1.out.other (k := w.heap.size + 1) 0 (.int .i64 k) (fun e => hof _ e rfl)).other (k := w.heap.size + 1) 1 (.int .i64 gn) (fun e => hof _ e rfl)).other (k := w.heap.size + 1) 2 (.slice C n d) (fun e => hof _ e rfl))
  clear hof
  obtain ⟨w_4, hw_4⟩ : ∃ q : World, (((w_3.setCell ⟨w.heap.size + 1, 0, none⟩ (.int .i64 k)).setCell ⟨w.heap.size + 1, 1, none⟩ (.int .i64 gn)).setCell ⟨w.heap.size + 1, 2, none⟩ (.slice C n d)) = q := ⟨_, rfl⟩
  rw [hw_4] at HX0 HX1 HB HO1 ⊢
  clear hw_4
  refine hK.out _ _ ⟨HX0.out.at_ 0, HX0.out.at_ 1, HX0.out.at_ 2⟩ (fun hHeld => ?_)
  clear hK K'
  try simp only [Act.put, List.setIfInBounds_toArray, List.set_cons_zero, List.set_cons_succ]
  refine wpAnyH_done (by kernel_rfl) ?_ _
  clear hHeld
  obtain ⟨y0, y1, y2, k0, k1, k2, hly⟩ := HX1.out.r3h
  go_wp2_with fail
  refine bodyPost_ret (v := .agg #[.int .i64 k, .int .i64 gn, .slice C n d]) ?_ rfl ⟨C, d, rfl, HO1.out.weak (by omega), HB.out⟩
  simp [results, Try.results36, go_sem, y0, y1, y2]
/-- Points at a gain. -/
def sclF (gn : Int) (F : Nat → Gau) (j : Nat) : Gau := ⟨(F j).re * gn, (F j).im * gn⟩
def fillC (U : Nat → Gau) (j i : Nat) : Gau := if i < j then U i else Gau.zero
theorem fillC_put (U : Nat → Gau) (j : Nat) : setGau (fillC U j) j (U j) = fillC U (j + 1) := by
  funext i
  unfold setGau fillC
  by_cases e : i = j
  · subst e; rw [if_pos rfl, if_pos (by omega)]
  · rw [if_neg e]
    by_cases h : i < j
    · rw [if_pos h, if_pos (by omega)]
    · rw [if_neg h, if_neg (by omega)]
set_option maxHeartbeats 8000000 in
set_option maxRecDepth 100000 in
theorem scaled_any (A : Option Addr) (n c : Nat) (gn : Int) (F : Nat → Gau) (w : World) (hn : n ≤ 1000) (hg : -10000000 ≤ gn ∧ gn ≤ 10000000) (hF : ∀ j, j < n → (F j).Within 100000000) (hI : GausAt w 0 A n F) :
    Calls Try.prog 77 #[.slice A n c, .int .i64 gn] w fun e w' => ∃ v, e = .returned v ∧ OwnGaus w' w.heap.size v n (sclF gn F) ∧ Below w.heap.size w w' := by
  have HI := hide hI
  have HFW := hide hF
  have hmk := make_gaus n (by omega)
  have HUD := hide (fun j => (show sclF gn F j = ⟨(F j).re * gn, (F j).im * gn⟩ from rfl))
  obtain ⟨U, hU⟩ : ∃ z, sclF gn F = z := ⟨_, rfl⟩
  rw [hU]
  simp only [hU] at HUD
  clear hU hI hF
  go_enter Try.func77, Try.ntmps77
  go_upto_region 2 with fail
  obtain ⟨gs, hgs⟩ : ∃ z, w.heap.size = z := ⟨_, rfl⟩
  obtain ⟨w2, hw2⟩ : ∃ z : World, z = w.alloc (.cells (madeCells #[.int .i64 0, .int .i64 0] (n * 2)) 43) := ⟨_, rfl⟩
  simp only [hgs]
  try rw [← hw2]
  have HO := hide (show OwnGaus w2 gs (.slice (some ⟨gs, 0, none⟩) n n) n (fillC U 0) from by
    have h9 := OwnGaus.made w w.heap.size gs n (Nat.le_refl _) hgs.symm (by unfold maxLen; omega)
    rw [← hw2, hgs] at h9
    exact h9.congr fun j _ => rfl)
  have HB := hide (show Below gs w w2 by rw [hw2, ← hgs]; (repeat (first | (with_reducible exact Below.refl _ _) | (with_reducible refine Go.below_drewN ?_ _) | (with_reducible refine Below.drew ?_) | (with_reducible refine Below.alloc ?_ (by first | exact Nat.le_refl _ | (simp; done) | (simp; omega) | omega) _) | (with_reducible refine Below.setCell ?_ (by first | exact Nat.le_refl _ | (simp; done) | (simp; omega) | omega) _))))
  clear hw2 hmk
  go_wp2_with fail
  go_loopw [6, 7, 13] (fun _ _ z wr => ∃ j : Nat, j ≤ n ∧ z = .int .i64 (j : Int) ∧ Hid (OwnGaus wr gs (.slice (some ⟨gs, 0, none⟩) n n) n (fillC U j)) ∧ Hid (Below gs w wr)) (fun _ _ z _ => n - (Go.RowKit.intOf z).toNat)
  case atStart => exact ⟨0, Nat.zero_le _, rfl, HO, HB⟩
  case round =>
    clear HO HB
    obtain ⟨j, hj, rfl, HO, HB⟩ := hrel
    obtain ⟨wA, rfl⟩ : ∃ x : World, x = wr := ⟨_, rfl⟩
    by_cases hlt : j < n
    case neg =>
      obtain rfl : n = j := by omega
      have hltz : ¬ (n : Int) < (n : Int) := by omega
      have HO2 := hide (HO.out.congr (G := U) fun i hi => if_pos hi)
      clear HO HUD HFW HI
      go_wp2_with fail
      go_ret
      subst hgs
      first | exact ⟨_, rfl, HO2.out, HB.out⟩ | exact ⟨HO2.out, HB.out⟩
    have hltz : (j : Int) < (n : Int) := by omega
    obtain ⟨b, o, rfl, -, hbl, c0, c1⟩ := (HI.out.below (by rw [hgs]; exact HB.out)) j hlt
    have hud := HUD.out j
    have hfw := HFW.out j hlt
    obtain ⟨xr, hxr⟩ : ∃ z, (F j).re = z := ⟨_, rfl⟩
    obtain ⟨xi, hxi⟩ : ∃ z, (F j).im = z := ⟨_, rfl⟩
    rw [hxr] at c0
    rw [hxi] at c1
    rw [hxr, hxi] at hud
    have hr := hfw.re
    have hi := hfw.im
    rw [hxr] at hr
    rw [hxi] at hi
    have h1 := mul_size hr hg
    have h2 := mul_size hi hg
    have q1 : IntKind.i64.wrap (xr * gn) = xr * gn := IntWalk.i64_in _ (by omega)
    have q2 : IntKind.i64.wrap (xi * gn) = xi * gn := IntWalk.i64_in _ (by omega)
    obtain ⟨P, hP⟩ : ∃ z, xr * gn = z := ⟨_, rfl⟩
    obtain ⟨Q, hQ⟩ : ∃ z, xi * gn = z := ⟨_, rfl⟩
    rw [hP, hQ] at hud
    replace q1 : IntKind.i64.wrap (xr * gn) = P := q1.trans hP
    replace q2 : IntKind.i64.wrap (xi * gn) = Q := q2.trans hQ
    have HPU := hide (fun W (h : OwnGaus W gs (.slice (some ⟨gs, 0, none⟩) n n) n (fillC U j)) => h.put j ⟨P, Q⟩)
    rw [← hud, fillC_put, hud] at HPU
    clear hfw hxr hxi hr hi h1 h2 hP hQ hud
    go_upto_region 5 with fail
    obtain ⟨b7, hb7⟩ : ∃ z, wA.heap.size = z := ⟨_, rfl⟩
    obtain ⟨w3, hw3⟩ : ∃ z : World, z = wA.alloc (.cells #[.int .i64 xr, .int .i64 xi] 43) := ⟨_, rfl⟩
    try rw [← hw3]
    try simp only [hb7]
    have HX := hide (show Box w3 b7 43 #[.int .i64 xr, .int .i64 xi] by rw [hw3]; exact Box.made hb7.symm)
    have hc3 : Below wA.heap.size wA w3 := by rw [hw3]; exact (Below.refl _ _).alloc (Nat.le_refl _) _
    have hgA := (HO.out.lt).2
    replace HO := hide (HO.out.below hc3)
    replace HB := hide (HB.out.trans (hc3.mono (by omega)))
    clear hw3 hc3 c0 c1
    obtain ⟨x0, x1⟩ := pairS_cells HX.out
    have hlx := HX.out.lt
    obtain ⟨f1, f2⟩ := HO.out.frozen2 j
    have hgb := (HO.out.lt).2
    obtain ⟨u1, u2⟩ := HO.out.cells hlt
    go_wp2_with fail
    have HO2 := hide (HPU.out _ HO.out)
    have HB2 := hide ((HB.out.setCell (p := ⟨gs, j * 2, none⟩) (Nat.le_refl _) (.int .i64 P)).setCell (p := ⟨gs, j * 2 + 1, none⟩) (Nat.le_refl _) (.int .i64 Q))
    clear HO HB
    go_roundw
    case rel => exact ⟨j + 1, by omega, by go_num, HO2, HB2⟩
    case measure => simp [Go.RowKit.intOf]; omega
end Go.Proofs.Ytceohaeebdhmjaa
/- GreatestError of the code. -/
namespace Go.Proofs.Ytceohaeebdhmjaa
open Go Go.RowKit Go.Lib
/-- The error of a symbol; the greatest of the first k, and the first that has it; m is the least that counts. -/
def szF (gn : Int) (F G : Nat → Gau) (j : Nat) : Int := max (((F j).re - (sclF gn G j).re).natAbs : Int) (((F j).im - (sclF gn G j).im).natAbs : Int)
def grE (Z : Nat → Int) (m : Int) : Nat → Int × Int
  | 0 => (m, 0)
  | k + 1 => if (grE Z m k).1 < Z k then (Z k, (k : Int)) else grE Z m k
theorem grE_same {Z : Nat → Int} (hZ : ∀ j, 0 ≤ Z j) : ∀ {k : Nat}, 0 < k → grE Z 0 k = grE Z (-1) k
  | 0, h => absurd h (Nat.lt_irrefl 0)
  | 1, _ => by
    have h0 := hZ 0
    show (if (0 : Int) < Z 0 then (Z 0, ((0 : Nat) : Int)) else ((0 : Int), (0 : Int))) = if (-1 : Int) < Z 0 then (Z 0, ((0 : Nat) : Int)) else ((-1 : Int), (0 : Int))
    rw [if_pos (show (-1 : Int) < Z 0 by omega)]
    by_cases h : (0 : Int) < Z 0
    · rw [if_pos h]
    · rw [if_neg h, show Z 0 = 0 by omega]; rfl
  | k + 2, _ => by
    have ih := grE_same hZ (k := k + 1) (by omega)
    show (if (grE Z 0 (k + 1)).1 < Z (k + 1) then (Z (k + 1), ((k + 1 : Nat) : Int)) else grE Z 0 (k + 1)) = _
    rw [ih]; rfl
theorem grE_low {Z : Nat → Int} {m : Int} (hZ : ∀ j, -1 ≤ Z j) (hm : -1 ≤ m) : ∀ {k : Nat}, -1 ≤ (grE Z m k).1
  | 0 => hm
  | k + 1 => by
    have ih := grE_low (m := m) hZ hm (k := k)
    unfold grE
    split
    · exact hZ k
    · exact ih
theorem szF_low (gn : Int) (F G : Nat → Gau) (j : Nat) : 0 ≤ szF gn F G j := by unfold szF; omega
/-- The answer of right symbols. -/
def greT (gn : Int) (n : Nat) (F : Nat → Gau) (m : Nat) (G : Nat → Gau) : Int × Int × Int := if m = n then (if insideB 100000000 n (sclF gn G) = true then ((grE (szF gn F G) 0 n).1, (grE (szF gn F G) 0 n).2, 0) else (0, 0, 8)) else (0, 0, 13)
theorem recvE_all {k g : Int} {n : Nat} {F : Nat → Gau} (h : recvE k g n F = 0) : (1 ≤ g ∧ g ≤ 10000000) ∧ ordE k = 0 ∧ 0 < n ∧ n ≤ 200 ∧ ∀ j, j < n → (F j).Within 100000000 := by
  obtain ⟨h1, h2, h3⟩ := recvE_gain h
  exact ⟨h1, h2, symsE_zero h3⟩
set_option maxHeartbeats 8000000 in
set_option maxRecDepth 100000 in
theorem GreatestError_wrong (k gn : Int) (A : Option Addr) (n d : Nat) (F : Nat → Gau) (A2 : Option Addr) (m d2 : Nat) (G : Nat → Gau) (w : World) (hn : n ≤ 100000) (hm : m ≤ 100000) (hI : GausAt w 0 A n F) (hJ : GausAt w 0 A2 m G) (hE : orS (recvE k gn n F) (symsE m G) ≠ 0) :
    Calls Try.prog 38 #[.agg #[.int .i64 k, .int .i64 gn, .slice A n d], .slice A2 m d2] w fun e w' => e = .returned (.tuple #[.int .i64 0, .int .i64 0, .int .i64 (orS (recvE k gn n F) (symsE m G))]) ∧ Below w.heap.size w w' := by
  have HRE := hide (fun W (h : GausAt W 0 A n F) => receivedError_any k gn A n d F W (by omega) h)
  have HSE := hide (fun W (h : GausAt W 0 A2 m G) => symbolsError_any A2 m d2 G W (by omega) h)
  have HI := hide hI
  have HJ := hide hJ
  obtain ⟨e1, he1⟩ : ∃ z, recvE k gn n F = z := ⟨_, rfl⟩
  obtain ⟨e2, he2⟩ : ∃ z, symsE m G = z := ⟨_, rfl⟩
  rw [he1] at HRE
  rw [he2] at HSE
  rw [he1, he2] at hE ⊢
  have te : (orS e1 e2 != 0) = true := by simpa using hE
  clear hI hJ hE he1 he2
  go_enter Try.func38, Try.ntmps38
  go_upto_region 1 with fail
  obtain ⟨w1, hw1⟩ : ∃ q : World, q = w.alloc (.cells #[.int .i64 k, .int .i64 gn, .slice A n d] 58) := ⟨_, rfl⟩
  try rw [← hw1]
  have HX := hide (show Box w1 w.heap.size 58 #[.int .i64 k, .int .i64 gn, .slice A n d] by rw [hw1]; exact Box.made rfl)
  have HB := hide (show Below w.heap.size w w1 by rw [hw1]; (repeat (first | (with_reducible exact Below.refl _ _) | (with_reducible refine Go.below_drewN ?_ _) | (with_reducible refine Below.drew ?_) | (with_reducible refine Below.alloc ?_ (by first | exact Nat.le_refl _ | (simp; done) | (simp; omega) | omega) _) | (with_reducible refine Below.setCell ?_ (by first | exact Nat.le_refl _ | (simp; done) | (simp; omega) | omega) _))))
  clear hw1
  obtain ⟨b2, hb2⟩ : ∃ z, w.heap.size = z := ⟨_, rfl⟩
  simp only [hb2] at HX HB ⊢
  obtain ⟨c0, c1, c2, hlz⟩ := rec_cells HX.out
  go_wp2_with (first | (go_at_call 75; refine (HRE.out _ (HI.out.below (by rw [hb2]; exact HB.out))).mono ?_; rintro e_ w_2 ⟨rfl, hb_2⟩; have hlz_ := HX.out.lt; replace HB := hide (HB.out.trans (hb_2.mono (Nat.le_of_lt hlz_))); replace HX := hide (HX.out.below hb_2); clear hlz_ hb_2) | (go_at_call 76; refine (HSE.out _ (HJ.out.below (by rw [hb2]; exact HB.out))).mono ?_; rintro e_ w_3 ⟨rfl, hb_3⟩; have hlz_ := HX.out.lt; replace HB := hide (HB.out.trans (hb_3.mono (Nat.le_of_lt hlz_))); replace HX := hide (HX.out.below hb_3); clear hlz_ hb_3))
  refine (orS_two e1 e2 _ _ _ (by first | exact (Box.made rfl : Box _ _ _ #[_, _]).at_ 0) (by first | exact (Box.made rfl : Box _ _ _ #[_, _]).at_ 1)).mono ?_
  rintro e_ w4 ⟨rfl, hw4⟩
  have hlz4 := HX.out.lt
  replace HB := hide (show Below b2 w w4 by rw [← hw4]; exact HB.out.alloc (Nat.le_of_lt hlz4) _)
  replace HX := hide (show Box w4 b2 58 #[.int .i64 k, .int .i64 gn, .slice A n d] by rw [← hw4]; exact HX.out.alloc _)
  clear hw4 hlz4 c0 c1 c2 hlz HRE HSE
  go_wp2_with fail
  go_ret3
  exact ⟨rfl, hb2 ▸ HB.out⟩
set_option maxHeartbeats 8000000 in
set_option maxRecDepth 100000 in
theorem GreatestError_right (k gn : Int) (A : Option Addr) (n d : Nat) (F : Nat → Gau) (A2 : Option Addr) (m d2 : Nat) (G : Nat → Gau) (w : World) (hI : GausAt w 0 A n F) (hJ : GausAt w 0 A2 m G) (hE : recvE k gn n F = 0) (hE2 : symsE m G = 0) :
    Calls Try.prog 38 #[.agg #[.int .i64 k, .int .i64 gn, .slice A n d], .slice A2 m d2] w fun e w' => e = .returned (.tuple #[.int .i64 (greT gn n F m G).1, .int .i64 (greT gn n F m G).2.1, .int .i64 (greT gn n F m G).2.2]) ∧ Below w.heap.size w w' := by
  obtain ⟨hg, -, hn0, hn, hFW⟩ := recvE_all hE
  obtain ⟨hm0, hm, hGW⟩ := symsE_zero hE2
  have HRE := hide (fun W (h : GausAt W 0 A n F) => receivedError_any k gn A n d F W (by omega) h)
  have HSE := hide (fun W (h : GausAt W 0 A2 m G) => symbolsError_any A2 m d2 G W (by omega) h)
  have HI := hide hI
  have HJ := hide hJ
  rw [hE] at HRE
  rw [hE2] at HSE
  have HFW := hide hFW
  have HGW := hide hGW
  have HSC := hide (fun (h : m = n) W (hJ : GausAt W 0 A2 m G) => scaled_any A2 m d2 gn G W (by omega) (by omega) hGW hJ)
  have te : ((0 : Int) != 0) = false := by decide
  have hoe : orS 0 0 = 0 := rfl
  have HGC := hide (fun h : ¬ m = n => (show greT gn n F m G = (0, 0, 13) from if_neg h))
  have HGR := hide (fun h : m = n => (show greT gn n F m G = if insideB 100000000 n (sclF gn G) = true then ((grE (szF gn F G) 0 n).1, (grE (szF gn F G) 0 n).2, 0) else (0, 0, 8) from if_pos h))
  obtain ⟨T, hT⟩ : ∃ z, greT gn n F m G = z := ⟨_, rfl⟩
  rw [hT] at HGR HGC ⊢
  clear hI hJ hE hE2 hFW hGW hT
  go_enter Try.func38, Try.ntmps38
  go_upto_region 1 with fail
  obtain ⟨w1, hw1⟩ : ∃ q : World, q = w.alloc (.cells #[.int .i64 k, .int .i64 gn, .slice A n d] 58) := ⟨_, rfl⟩
  try rw [← hw1]
  have HX := hide (show Box w1 w.heap.size 58 #[.int .i64 k, .int .i64 gn, .slice A n d] by rw [hw1]; exact Box.made rfl)
  have HB := hide (show Below w.heap.size w w1 by rw [hw1]; (repeat (first | (with_reducible exact Below.refl _ _) | (with_reducible refine Go.below_drewN ?_ _) | (with_reducible refine Below.drew ?_) | (with_reducible refine Below.alloc ?_ (by first | exact Nat.le_refl _ | (simp; done) | (simp; omega) | omega) _) | (with_reducible refine Below.setCell ?_ (by first | exact Nat.le_refl _ | (simp; done) | (simp; omega) | omega) _))))
  clear hw1
  obtain ⟨b2, hb2⟩ : ∃ z, w.heap.size = z := ⟨_, rfl⟩
  simp only [hb2] at HX HB ⊢
  obtain ⟨c0, c1, c2, hlz⟩ := rec_cells HX.out
  go_wp2_with (first | (go_at_call 75; refine (HRE.out _ (HI.out.below (by rw [hb2]; exact HB.out))).mono ?_; rintro e_ w_2 ⟨rfl, hb_2⟩; have hlz_ := HX.out.lt; replace HB := hide (HB.out.trans (hb_2.mono (Nat.le_of_lt hlz_))); replace HX := hide (HX.out.below hb_2); clear hlz_ hb_2) | (go_at_call 76; refine (HSE.out _ (HJ.out.below (by rw [hb2]; exact HB.out))).mono ?_; rintro e_ w_3 ⟨rfl, hb_3⟩; have hlz_ := HX.out.lt; replace HB := hide (HB.out.trans (hb_3.mono (Nat.le_of_lt hlz_))); replace HX := hide (HX.out.below hb_3); clear hlz_ hb_3))
  refine (orS_two 0 0 _ _ _ (by first | exact (Box.made rfl : Box _ _ _ #[_, _]).at_ 0) (by first | exact (Box.made rfl : Box _ _ _ #[_, _]).at_ 1)).mono ?_
  rintro e_ w4 ⟨rfl, hw4⟩
  have hlz4 := HX.out.lt
  replace HB := hide (show Below b2 w w4 by rw [← hw4]; exact HB.out.alloc (Nat.le_of_lt hlz4) _)
  replace HX := hide (show Box w4 b2 58 #[.int .i64 k, .int .i64 gn, .slice A n d] by rw [← hw4]; exact HX.out.alloc _)
  clear hw4 hlz4 c0 c1 c2 hlz HRE HSE
  try rw [hoe]
  have hlz := HX.out.lt
  obtain ⟨c0, c1, c2, -⟩ := rec_cells HX.out
  by_cases hmn : m = n
  case neg =>
    have hmn2 : (((m : Int) != (n : Int))) = true := by simp; omega
    replace HGC := hide (HGC.out hmn)
    clear HSC HFW HGW HGR
    go_wp2_with fail
    go_ret3
    exact ⟨by rw [HGC.out]; rfl, hb2 ▸ HB.out⟩
  have HSC1 := hide (HSC.out hmn)
  subst hmn
  have hmn2 : (((m : Int) != (m : Int))) = false := by simp
  have HZ1 := hide (fun j (hj : j < m) (h : (sclF gn G j).Within 100000000) => (show szF gn F G j = max (((F j).re - (sclF gn G j).re).natAbs : Int) (((F j).im - (sclF gn G j).im).natAbs : Int) ∧ (F j).Within 100000000 ∧ (sclF gn G j).Within 100000000 from ⟨rfl, HFW.out j hj, h⟩))
  replace HGR := hide (HGR.out rfl)
  clear HGC
  have HIN := hide (fun h : insideB 100000000 m (sclF gn G) = true => insideB_iff.1 h)
  obtain ⟨U, hU⟩ : ∃ z, sclF gn G = z := ⟨_, rfl⟩
  simp only [hU] at HSC1 HZ1 HGR HIN
  obtain ⟨Z, hZ⟩ : ∃ z, szF gn F G = z := ⟨_, rfl⟩
  simp only [hZ] at HZ1 HGR
  clear hU hZ HSC HFW HGW
  go_wp2_with (go_at_call 77; refine (HSC1.out _ (HJ.out.below (by rw [hb2]; exact HB.out))).mono ?_; rintro e_ w_5 ⟨v5, rfl, ho5, hb_5⟩; have hlz_ := HX.out.lt; replace HB := hide (HB.out.trans (hb_5.mono (Nat.le_of_lt hlz_))); replace HX := hide (HX.out.below hb_5); obtain ⟨C, d5, rfl, hd5, hC⟩ := ownGaus_form ho5; have HC := hide (hC.weak (Nat.zero_le _)); clear hC ho5 hb_5 hlz_)
  have HAW := hide (fun W (h : GausAt W 0 C m U) => areWithin_any C m d5 U 100000000 W (by omega) (by omega) h)
  obtain ⟨s5, hs5⟩ : ∃ z, insideB 100000000 m U = z := ⟨_, rfl⟩
  rw [hs5] at HAW HGR HIN
  clear hs5
  refine (HAW.out _ HC.out).mono ?_
  rintro e_ w_6 ⟨rfl, hb_6⟩
  have hlz_ := HX.out.lt
  replace HB := hide (HB.out.trans (hb_6.mono (Nat.le_of_lt hlz_)))
  replace HX := hide (HX.out.below hb_6)
  replace HC := hide (HC.out.below hb_6)
  clear hb_6 hlz_ c0 c1 c2 hlz HAW
  by_cases hs : s5 = true
  case neg =>
    replace hs : s5 = false := by simpa using hs
    subst hs
    replace HGR := hide (show T = (0, 0, 8) from HGR.out.trans (if_neg (by decide)))
    clear HIN
    go_wp2_with fail
    go_ret3
    exact ⟨by rw [HGR.out]; rfl, hb2 ▸ HB.out⟩
  subst hs
  replace HGR := hide (show T = ((grE Z 0 m).1, (grE Z 0 m).2, 0) from HGR.out.trans (if_pos rfl))
  replace HIN := hide (HIN.out rfl)
  have HS := hide (fun j => (show grE Z 0 (j + 1) = if (grE Z 0 j).1 < Z j then (Z j, (j : Int)) else grE Z 0 j from rfl))
  have HS0 := hide (show grE Z 0 0 = (0, 0) from rfl)
  obtain ⟨H, hH⟩ : ∃ z, grE Z 0 = z := ⟨_, rfl⟩
  simp only [hH] at HS HS0 HGR
  clear hH
  go_wp2_with fail
  go_loopw [9, 10, 39] (fun a f i wr => ∃ j : Nat, j ≤ m ∧ i = .int .i64 (j : Int) ∧ a = .int .i64 (H j).1 ∧ f = .int .i64 (H j).2 ∧ Hid (GausAt wr 0 C m U) ∧ Hid (Box wr b2 58 #[.int .i64 k, .int .i64 gn, .slice A m d]) ∧ Hid (Below b2 w wr)) (fun _ _ i _ => m - (Go.RowKit.intOf i).toNat)
  case atStart => exact ⟨0, Nat.zero_le _, rfl, by rw [HS0.out], by rw [HS0.out], HC, HX, HB⟩
  case round =>
    clear HX HB HC HS0
    obtain ⟨j, hj, rfl, rfl, rfl, HC, HX, HB⟩ := hrel
    obtain ⟨wA, rfl⟩ : ∃ x : World, x = wr := ⟨_, rfl⟩
    by_cases hlt : j < m
    case neg =>
      obtain rfl : m = j := by omega
      have hltz : ¬ (m : Int) < (m : Int) := by omega
      clear HS HIN HZ1 HC HI HJ
      go_wp2_with fail
      go_ret3
      exact ⟨by rw [HGR.out]; rfl, hb2 ▸ HB.out⟩
    have hltz : (j : Int) < (m : Int) := by omega
    obtain ⟨hz, hfw, huw⟩ := HZ1.out j hlt (HIN.out j hlt)
    have hs := HS.out j
    obtain ⟨pb, po, rfl, -, hpw, p0, p1⟩ := HC.out j hlt
    obtain ⟨sb, so, rfl, -, hsw, s0, s1⟩ := (HI.out.below (by rw [hb2]; exact HB.out)) j hlt
    obtain ⟨x, hx⟩ : ∃ z, F j = z := ⟨_, rfl⟩
    obtain ⟨y, hy⟩ : ∃ z, U j = z := ⟨_, rfl⟩
    rw [hx] at hz hfw s0 s1
    rw [hy] at hz huw p0 p1
    obtain ⟨⟨a, f⟩, haf⟩ : ∃ z, H j = z := ⟨_, rfl⟩
    simp only [haf] at hs ⊢
    obtain ⟨u, hu⟩ : ∃ z, Z j = z := ⟨_, rfl⟩
    rw [hu] at hz hs
    clear hx hy haf hu
    have b1 := hfw.re
    have b2_ := hfw.im
    have b3 := huw.re
    have b4 := huw.im
    have HZA := hide (fun W1 => sizeOf_any (x.re - y.re) W1 (by omega))
    have HZB := hide (fun W1 => sizeOf_any (x.im - y.im) W1 (by omega))
    have q1 : IntKind.i64.wrap (x.re - y.re) = x.re - y.re := IntWalk.i64_in _ (by omega)
    have q2 : IntKind.i64.wrap (x.im - y.im) = x.im - y.im := IntWalk.i64_in _ (by omega)
    obtain ⟨zr, hzr⟩ : ∃ z, ((x.re - y.re).natAbs : Int) = z := ⟨_, rfl⟩
    obtain ⟨zi, hzi⟩ : ∃ z, ((x.im - y.im).natAbs : Int) = z := ⟨_, rfl⟩
    rw [hzr] at HZA hz
    rw [hzi] at HZB hz
    obtain ⟨c0, c1, c2, hlz⟩ := rec_cells HX.out
    clear hfw huw hzr hzi b1 b2_ b3 b4 HZ1 HIN HS
    go_upto_region 14 with fail
    clear p0 p1 s0 s1 c0 c1 c2 hlz
    obtain ⟨bp, hbp⟩ : ∃ z, wA.heap.size = z := ⟨_, rfl⟩
    obtain ⟨bs, hbs⟩ : ∃ z, bp + 1 = z := ⟨_, rfl⟩
    obtain ⟨w3, hw3⟩ : ∃ z : World, z = (wA.alloc (.cells #[.int .i64 y.re, .int .i64 y.im] 43)).alloc (.cells #[.int .i64 x.re, .int .i64 x.im] 43) := ⟨_, rfl⟩
    try rw [← hw3]
    try simp only [hbp, hbs]
    have HP := hide (show Box w3 bp 43 #[.int .i64 y.re, .int .i64 y.im] by rw [hw3]; exact (Box.made hbp.symm).alloc _)
    have HR := hide (show Box w3 bs 43 #[.int .i64 x.re, .int .i64 x.im] by rw [hw3]; exact Box.made (by simp; omega))
    have hc3 : Below wA.heap.size wA w3 := by rw [hw3]; (repeat (first | (with_reducible exact Below.refl _ _) | (with_reducible refine Go.below_drewN ?_ _) | (with_reducible refine Below.drew ?_) | (with_reducible refine Below.alloc ?_ (by first | exact Nat.le_refl _ | (simp; done) | (simp; omega) | omega) _) | (with_reducible refine Below.setCell ?_ (by first | exact Nat.le_refl _ | (simp; done) | (simp; omega) | omega) _)))
    have hlA := HX.out.lt
    replace HC := hide (HC.out.below hc3)
    replace HX := hide (HX.out.below hc3)
    replace HB := hide (HB.out.trans (hc3.mono (Nat.le_of_lt hlA)))
    replace hlA := Nat.lt_of_lt_of_le hlA hc3.size
    clear hw3 hc3 hbp hbs
    by_cases hzz : zr < zi
    case pos =>
      obtain rfl : u = zi := by rw [hz]; omega
      clear hz
      refine wp_region_held_drew (S := fun w' => w'.cell? ⟨bp, 0, none⟩ = some (.int .i64 y.re) ∧ w'.cell? ⟨bp, 1, none⟩ = some (.int .i64 y.im) ∧ w'.cell? ⟨bs, 0, none⟩ = some (.int .i64 x.re) ∧ w'.cell? ⟨bs, 1, none⟩ = some (.int .i64 x.im)) (by kernel_rfl) ⟨HP.out.at_ 0, HP.out.at_ 1, HR.out.at_ 0, HR.out.at_ 1⟩ (fun hHeld => ?_)
      obtain ⟨w_1, hw_1⟩ : ∃ q : World, q = w3.drew := ⟨_, rfl⟩
      rw [← hw_1] at hHeld ⊢
      have hc_1 : Below w3.heap.size w3 w_1 := by rw [hw_1]; exact (Below.refl _ _).drew
      clear hw_1
      replace HP := hide (HP.out.below hc_1)
      replace HR := hide (HR.out.below hc_1)
      replace HC := hide (HC.out.below hc_1)
      replace HX := hide (HX.out.below hc_1)
      replace HB := hide (HB.out.trans (hc_1.mono (Nat.le_of_lt hlA)))
      replace hlA := Nat.lt_of_lt_of_le hlA hc_1.size
      clear hc_1
      refine wpAnyH_take (i := 0) (oi := ⟨some 49, _, _, _, _, _⟩) (v := ?_) rfl (by kernel_rfl) (by kernel_rfl) (by kernel_rfl) (fun _ _ _ h => h) (Or.inl ⟨by rfl, ?_⟩) (by assumption) ?_
      rotate_left
      · (intro w' hSw; (try dsimp only at hSw); go_simp <;> (with_reducible rfl))
      try simp only [Act.put, List.setIfInBounds_toArray, List.set_cons_zero, List.set_cons_succ]
      refine wpAnyH_take (i := 1) (oi := ⟨some 50, _, _, _, _, _⟩) (v := ?_) rfl (by kernel_rfl) (by kernel_rfl) (by kernel_rfl) (fun _ _ _ h => h) (Or.inl ⟨by rfl, ?_⟩) (by assumption) ?_
      rotate_left
      · (intro w' hSw; (try dsimp only at hSw); go_simp <;> (with_reducible rfl))
      try simp only [Act.put, List.setIfInBounds_toArray, List.set_cons_zero, List.set_cons_succ]
      refine wpAnyH_take (i := 2) (oi := ⟨some 51, _, _, _, _, _⟩) (v := ?_) rfl (by kernel_rfl) (by kernel_rfl) (by kernel_rfl) (fun _ _ _ h => h) (Or.inl ⟨by rfl, ?_⟩) (by assumption) ?_
      rotate_left
      · (intro w' hSw; (try dsimp only at hSw); go_simp <;> (with_reducible rfl))
      try simp only [Act.put, List.setIfInBounds_toArray, List.set_cons_zero, List.set_cons_succ]
      refine wpAnyH_take (i := 3) (oi := ⟨some 52, _, _, _, _, _⟩) (v := ?_) rfl (by kernel_rfl) (by kernel_rfl) (by kernel_rfl) (fun _ _ _ h => h) (Or.inl ⟨by rfl, ?_⟩) (by assumption) ?_
      rotate_left
      · (intro w' hSw; (try dsimp only at hSw); go_simp <;> (with_reducible rfl))
      try simp only [Act.put, List.setIfInBounds_toArray, List.set_cons_zero, List.set_cons_succ]
      refine wpAnyH_take (i := 4) (oi := ⟨some 53, _, _, _, _, _⟩) (v := ?_) rfl (by kernel_rfl) (by kernel_rfl) (by kernel_rfl) (fun _ _ _ h => h) (Or.inl ⟨by rfl, ?_⟩) (by assumption) ?_
      rotate_left
      · (intro w' hSw; (try dsimp only at hSw); go_simp <;> (with_reducible rfl))
      try simp only [Act.put, List.setIfInBounds_toArray, List.set_cons_zero, List.set_cons_succ]
      refine wpAnyH_take (i := 6) (oi := ⟨some 55, _, _, _, _, _⟩) (v := ?_) rfl (by kernel_rfl) (by kernel_rfl) (by kernel_rfl) (fun _ _ _ h => h) (Or.inl ⟨by rfl, ?_⟩) (by assumption) ?_
      rotate_left
      · (intro w' hSw; (try dsimp only at hSw); go_simp <;> (with_reducible rfl))
      try simp only [Act.put, List.setIfInBounds_toArray, List.set_cons_zero, List.set_cons_succ]
      refine wpAnyH_take (i := 7) (oi := ⟨some 56, _, _, _, _, _⟩) (v := ?_) rfl (by kernel_rfl) (by kernel_rfl) (by kernel_rfl) (fun _ _ _ h => h) (Or.inl ⟨by rfl, ?_⟩) (by assumption) ?_
      rotate_left
      · (intro w' hSw; (try dsimp only at hSw); go_simp <;> (with_reducible rfl))
      try simp only [Act.put, List.setIfInBounds_toArray, List.set_cons_zero, List.set_cons_succ]
      refine wpAnyH_take (i := 8) (oi := ⟨some 57, _, _, _, _, _⟩) (v := ?_) rfl (by kernel_rfl) (by kernel_rfl) (by kernel_rfl) (fun _ _ _ h => h) (Or.inl ⟨by rfl, ?_⟩) (by assumption) ?_
      rotate_left
      · (intro w' hSw; (try dsimp only at hSw); go_simp <;> (with_reducible rfl))
      try simp only [Act.put, List.setIfInBounds_toArray, List.set_cons_zero, List.set_cons_succ]
      refine wpAnyH_take (i := 9) (oi := ⟨some 58, _, _, _, _, _⟩) (v := ?_) rfl (by kernel_rfl) (by kernel_rfl) (by kernel_rfl) (fun _ _ _ h => h) (Or.inl ⟨by rfl, ?_⟩) (by assumption) ?_
      rotate_left
      · (intro w' hSw; (try dsimp only at hSw); go_simp <;> (with_reducible rfl))
      try simp only [Act.put, List.setIfInBounds_toArray, List.set_cons_zero, List.set_cons_succ]
      refine wpAnyH_take (i := 10) (oi := ⟨some 59, _, _, _, _, _⟩) (v := ?_) rfl (by kernel_rfl) (by kernel_rfl) (by kernel_rfl) (fun _ _ _ h => h) (Or.inl ⟨by rfl, ?_⟩) (by assumption) ?_
      rotate_left
      · (intro w' hSw; (try dsimp only at hSw); go_simp <;> (with_reducible rfl))
      try simp only [Act.put, List.setIfInBounds_toArray, List.set_cons_zero, List.set_cons_succ]
      refine wpAnyH_ready (rs := [5]) (by kernel_rfl) (by simp) ?_
      refine AllReadyH.cons (o := ⟨some 54, _, _, _, _, _⟩) rfl (fun K' hK => ?_) AllReadyH.nil
      go_simp
      go_at_call 78
      refine (HZA.out _).mono ?_
      rintro e_ v_ ⟨rfl, hv_⟩
      have hv_ := hv_.symm
      subst hv_
      go_wp2_with fail
      refine hK.out _ _ ⟨HP.out.at_ 0, HP.out.at_ 1, HR.out.at_ 0, HR.out.at_ 1⟩ (fun hHeld => ?_)
      clear hK K'
      try simp only [Act.put, List.setIfInBounds_toArray, List.set_cons_zero, List.set_cons_succ]
      refine wpAnyH_ready (rs := [11]) (by kernel_rfl) (by simp) ?_
      refine AllReadyH.cons (o := ⟨some 60, _, _, _, _, _⟩) rfl (fun K' hK => ?_) AllReadyH.nil
      go_simp
      go_at_call 78
      refine (HZB.out _).mono ?_
      rintro e_ v_ ⟨rfl, hv_⟩
      have hv_ := hv_.symm
      subst hv_
      go_wp2_with fail
      refine hK.out _ _ ⟨HP.out.at_ 0, HP.out.at_ 1, HR.out.at_ 0, HR.out.at_ 1⟩ (fun hHeld => ?_)
      clear hK K'
      try simp only [Act.put, List.setIfInBounds_toArray, List.set_cons_zero, List.set_cons_succ]
      refine wpAnyH_take (i := 12) (oi := ⟨some 61, _, _, _, _, _⟩) (v := ?_) rfl (by kernel_rfl) (by kernel_rfl) (by kernel_rfl) (fun _ _ _ h => h) (Or.inl ⟨by rfl, ?_⟩) (by assumption) ?_
      rotate_left
      · (intro w' hSw; (try dsimp only at hSw); go_simp <;> (with_reducible rfl))
      try simp only [Act.put, List.setIfInBounds_toArray, List.set_cons_zero, List.set_cons_succ]
      refine wpAnyH_take (i := 13) (oi := ⟨some 14, _, _, _, _, _⟩) (v := ?_) rfl (by kernel_rfl) (by kernel_rfl) (by kernel_rfl) (fun _ _ _ h => h) (Or.inl ⟨by rfl, ?_⟩) (by assumption) ?_
      rotate_left
      · (intro w' hSw; (try dsimp only at hSw); go_simp <;> (with_reducible rfl))
      try simp only [Act.put, List.setIfInBounds_toArray, List.set_cons_zero, List.set_cons_succ]
      refine wpAnyH_done (by kernel_rfl) ?_ _
      clear hHeld HZA HZB
      by_cases hau : a < u
      case pos =>
        rw [if_pos hau] at hs
        go_wp2_with fail
        go_roundw
        case rel => exact ⟨j + 1, by omega, by go_num, (by rw [hs]; first | done | (split <;> first | rfl | (exfalso; omega))), by rw [hs], HC, HX, HB⟩
        case measure => simp [Go.RowKit.intOf]; omega
      rw [if_neg hau] at hs
      go_wp2_with fail
      go_roundw
      case rel => exact ⟨j + 1, by omega, by go_num, (by rw [hs]; first | done | (split <;> first | rfl | (exfalso; omega))), by rw [hs], HC, HX, HB⟩
      case measure => simp [Go.RowKit.intOf]; omega
    obtain rfl : u = zr := by rw [hz]; omega
    clear hz
    refine wp_region_held_drew (S := fun w' => w'.cell? ⟨bp, 0, none⟩ = some (.int .i64 y.re) ∧ w'.cell? ⟨bp, 1, none⟩ = some (.int .i64 y.im) ∧ w'.cell? ⟨bs, 0, none⟩ = some (.int .i64 x.re) ∧ w'.cell? ⟨bs, 1, none⟩ = some (.int .i64 x.im)) (by kernel_rfl) ⟨HP.out.at_ 0, HP.out.at_ 1, HR.out.at_ 0, HR.out.at_ 1⟩ (fun hHeld => ?_)
    obtain ⟨w_2, hw_2⟩ : ∃ q : World, q = w3.drew := ⟨_, rfl⟩
    rw [← hw_2] at hHeld ⊢
    have hc_2 : Below w3.heap.size w3 w_2 := by rw [hw_2]; exact (Below.refl _ _).drew
    clear hw_2
    replace HP := hide (HP.out.below hc_2)
    replace HR := hide (HR.out.below hc_2)
    replace HC := hide (HC.out.below hc_2)
    replace HX := hide (HX.out.below hc_2)
    replace HB := hide (HB.out.trans (hc_2.mono (Nat.le_of_lt hlA)))
    replace hlA := Nat.lt_of_lt_of_le hlA hc_2.size
    clear hc_2
    refine wpAnyH_take (i := 0) (oi := ⟨some 49, _, _, _, _, _⟩) (v := ?_) rfl (by kernel_rfl) (by kernel_rfl) (by kernel_rfl) (fun _ _ _ h => h) (Or.inl ⟨by rfl, ?_⟩) (by assumption) ?_
    rotate_left
    · (intro w' hSw; (try dsimp only at hSw); go_simp <;> (with_reducible rfl))
    try simp only [Act.put, List.setIfInBounds_toArray, List.set_cons_zero, List.set_cons_succ]
    refine wpAnyH_take (i := 1) (oi := ⟨some 50, _, _, _, _, _⟩) (v := ?_) rfl (by kernel_rfl) (by kernel_rfl) (by kernel_rfl) (fun _ _ _ h => h) (Or.inl ⟨by rfl, ?_⟩) (by assumption) ?_
    rotate_left
    · (intro w' hSw; (try dsimp only at hSw); go_simp <;> (with_reducible rfl))
    try simp only [Act.put, List.setIfInBounds_toArray, List.set_cons_zero, List.set_cons_succ]
    refine wpAnyH_take (i := 2) (oi := ⟨some 51, _, _, _, _, _⟩) (v := ?_) rfl (by kernel_rfl) (by kernel_rfl) (by kernel_rfl) (fun _ _ _ h => h) (Or.inl ⟨by rfl, ?_⟩) (by assumption) ?_
    rotate_left
    · (intro w' hSw; (try dsimp only at hSw); go_simp <;> (with_reducible rfl))
    try simp only [Act.put, List.setIfInBounds_toArray, List.set_cons_zero, List.set_cons_succ]
    refine wpAnyH_take (i := 3) (oi := ⟨some 52, _, _, _, _, _⟩) (v := ?_) rfl (by kernel_rfl) (by kernel_rfl) (by kernel_rfl) (fun _ _ _ h => h) (Or.inl ⟨by rfl, ?_⟩) (by assumption) ?_
    rotate_left
    · (intro w' hSw; (try dsimp only at hSw); go_simp <;> (with_reducible rfl))
    try simp only [Act.put, List.setIfInBounds_toArray, List.set_cons_zero, List.set_cons_succ]
    refine wpAnyH_take (i := 4) (oi := ⟨some 53, _, _, _, _, _⟩) (v := ?_) rfl (by kernel_rfl) (by kernel_rfl) (by kernel_rfl) (fun _ _ _ h => h) (Or.inl ⟨by rfl, ?_⟩) (by assumption) ?_
    rotate_left
    · (intro w' hSw; (try dsimp only at hSw); go_simp <;> (with_reducible rfl))
    try simp only [Act.put, List.setIfInBounds_toArray, List.set_cons_zero, List.set_cons_succ]
    refine wpAnyH_take (i := 6) (oi := ⟨some 55, _, _, _, _, _⟩) (v := ?_) rfl (by kernel_rfl) (by kernel_rfl) (by kernel_rfl) (fun _ _ _ h => h) (Or.inl ⟨by rfl, ?_⟩) (by assumption) ?_
    rotate_left
    · (intro w' hSw; (try dsimp only at hSw); go_simp <;> (with_reducible rfl))
    try simp only [Act.put, List.setIfInBounds_toArray, List.set_cons_zero, List.set_cons_succ]
    refine wpAnyH_take (i := 7) (oi := ⟨some 56, _, _, _, _, _⟩) (v := ?_) rfl (by kernel_rfl) (by kernel_rfl) (by kernel_rfl) (fun _ _ _ h => h) (Or.inl ⟨by rfl, ?_⟩) (by assumption) ?_
    rotate_left
    · (intro w' hSw; (try dsimp only at hSw); go_simp <;> (with_reducible rfl))
    try simp only [Act.put, List.setIfInBounds_toArray, List.set_cons_zero, List.set_cons_succ]
    refine wpAnyH_take (i := 8) (oi := ⟨some 57, _, _, _, _, _⟩) (v := ?_) rfl (by kernel_rfl) (by kernel_rfl) (by kernel_rfl) (fun _ _ _ h => h) (Or.inl ⟨by rfl, ?_⟩) (by assumption) ?_
    rotate_left
    · (intro w' hSw; (try dsimp only at hSw); go_simp <;> (with_reducible rfl))
    try simp only [Act.put, List.setIfInBounds_toArray, List.set_cons_zero, List.set_cons_succ]
    refine wpAnyH_take (i := 9) (oi := ⟨some 58, _, _, _, _, _⟩) (v := ?_) rfl (by kernel_rfl) (by kernel_rfl) (by kernel_rfl) (fun _ _ _ h => h) (Or.inl ⟨by rfl, ?_⟩) (by assumption) ?_
    rotate_left
    · (intro w' hSw; (try dsimp only at hSw); go_simp <;> (with_reducible rfl))
    try simp only [Act.put, List.setIfInBounds_toArray, List.set_cons_zero, List.set_cons_succ]
    refine wpAnyH_take (i := 10) (oi := ⟨some 59, _, _, _, _, _⟩) (v := ?_) rfl (by kernel_rfl) (by kernel_rfl) (by kernel_rfl) (fun _ _ _ h => h) (Or.inl ⟨by rfl, ?_⟩) (by assumption) ?_
    rotate_left
    · (intro w' hSw; (try dsimp only at hSw); go_simp <;> (with_reducible rfl))
    try simp only [Act.put, List.setIfInBounds_toArray, List.set_cons_zero, List.set_cons_succ]
    refine wpAnyH_ready (rs := [5]) (by kernel_rfl) (by simp) ?_
    refine AllReadyH.cons (o := ⟨some 54, _, _, _, _, _⟩) rfl (fun K' hK => ?_) AllReadyH.nil
    go_simp
    go_at_call 78
    refine (HZA.out _).mono ?_
    rintro e_ v_ ⟨rfl, hv_⟩
    have hv_ := hv_.symm
    subst hv_
    go_wp2_with fail
    refine hK.out _ _ ⟨HP.out.at_ 0, HP.out.at_ 1, HR.out.at_ 0, HR.out.at_ 1⟩ (fun hHeld => ?_)
    clear hK K'
    try simp only [Act.put, List.setIfInBounds_toArray, List.set_cons_zero, List.set_cons_succ]
    refine wpAnyH_ready (rs := [11]) (by kernel_rfl) (by simp) ?_
    refine AllReadyH.cons (o := ⟨some 60, _, _, _, _, _⟩) rfl (fun K' hK => ?_) AllReadyH.nil
    go_simp
    go_at_call 78
    refine (HZB.out _).mono ?_
    rintro e_ v_ ⟨rfl, hv_⟩
    have hv_ := hv_.symm
    subst hv_
    go_wp2_with fail
    refine hK.out _ _ ⟨HP.out.at_ 0, HP.out.at_ 1, HR.out.at_ 0, HR.out.at_ 1⟩ (fun hHeld => ?_)
    clear hK K'
    try simp only [Act.put, List.setIfInBounds_toArray, List.set_cons_zero, List.set_cons_succ]
    refine wpAnyH_take (i := 12) (oi := ⟨some 61, _, _, _, _, _⟩) (v := ?_) rfl (by kernel_rfl) (by kernel_rfl) (by kernel_rfl) (fun _ _ _ h => h) (Or.inl ⟨by rfl, ?_⟩) (by assumption) ?_
    rotate_left
    · (intro w' hSw; (try dsimp only at hSw); go_simp <;> (with_reducible rfl))
    try simp only [Act.put, List.setIfInBounds_toArray, List.set_cons_zero, List.set_cons_succ]
    refine wpAnyH_take (i := 13) (oi := ⟨some 14, _, _, _, _, _⟩) (v := ?_) rfl (by kernel_rfl) (by kernel_rfl) (by kernel_rfl) (fun _ _ _ h => h) (Or.inl ⟨by rfl, ?_⟩) (by assumption) ?_
    rotate_left
    · (intro w' hSw; (try dsimp only at hSw); go_simp <;> (with_reducible rfl))
    try simp only [Act.put, List.setIfInBounds_toArray, List.set_cons_zero, List.set_cons_succ]
    refine wpAnyH_done (by kernel_rfl) ?_ _
    clear hHeld HZA HZB
    by_cases hau : a < u
    case pos =>
      rw [if_pos hau] at hs
      go_wp2_with fail
      go_roundw
      case rel => exact ⟨j + 1, by omega, by go_num, (by rw [hs]; first | done | (split <;> first | rfl | (exfalso; omega))), by rw [hs], HC, HX, HB⟩
      case measure => simp [Go.RowKit.intOf]; omega
    rw [if_neg hau] at hs
    go_wp2_with fail
    go_roundw
    case rel => exact ⟨j + 1, by omega, by go_num, (by rw [hs]; first | done | (split <;> first | rfl | (exfalso; omega))), by rw [hs], HC, HX, HB⟩
    case measure => simp [Go.RowKit.intOf]; omega
end Go.Proofs.Ytceohaeebdhmjaa
/- Hard and soft bits agree; GreatestError of the code for right received symbols. -/
namespace Go.Proofs.Ytceohaeebdhmjaa
open Go Go.RowKit Go.Lib
theorem leastTo_ge {D : Nat → Int} {c p b : Nat} {x : Int} (hx : x ≤ 9223372036854775807) : ∀ {k : Nat}, (∀ j, j < k → x ≤ D j) → x ≤ leastTo D c k p b
  | 0, _ => hx
  | k + 1, h => by
    have ih := leastTo_ge (c := c) (p := p) (b := b) hx (k := k) fun j hj => h j (by omega)
    have := h k (by omega)
    unfold leastTo
    split <;> omega
theorem hard_soft {p g : Int} {c i : Nat} (hp : -100000000 ≤ p ∧ p ≤ 100000000) (hg : 1 ≤ g ∧ g ≤ 10000000) (h1 : 1 ≤ c) (h3 : c ≤ 3) (hi : i < c) : (0 < softP p g c i → hardP p g c i = 0) ∧ (softP p g c i < 0 → hardP p g c i = 1) := by
  obtain ⟨k1, -, k3⟩ := hard_level hp hg h1 h3
  have hx : distF p g c (hardJ p g c) ≤ 9223372036854775807 := by have := distF_le (j := hardJ p g c) hp hg h1 h3; omega
  have hlo : ∀ b, distF p g c (hardJ p g c) ≤ leastTo (distF p g c) c (2 ^ c) i b := fun b => leastTo_ge hx fun j hj => k3 j hj
  have hd := (distF_le (j := hardJ p g c) hp hg h1 h3).1
  have a0 := hlo 0
  have a1 := hlo 1
  have hb : hardP p g c i = 0 ∨ hardP p g c i = 1 := labF_bit c (hardJ p g c) i
  have up : ∀ b : Nat, hardP p g c i = (b : Int) → leastTo (distF p g c) c (2 ^ c) i b ≤ distF p g c (hardJ p g c) := fun b e => leastTo_le k1 e
  unfold softP
  obtain ⟨L0, e0⟩ : ∃ z, leastTo (distF p g c) c (2 ^ c) i 0 = z := ⟨_, rfl⟩
  obtain ⟨L1, e1⟩ : ∃ z, leastTo (distF p g c) c (2 ^ c) i 1 = z := ⟨_, rfl⟩
  have u0 := up 0
  have u1 := up 1
  rw [e0] at a0 u0
  rw [e1] at a1 u1
  rw [e0, e1]
  constructor
  · intro h
    rcases hb with hb | hb
    · exact hb
    · have := u1 hb
      have := Int.mul_le_mul (show L1 ≤ L0 by omega) (show L1 ≤ L0 by omega) (show 0 ≤ L1 by omega) (show 0 ≤ L0 by omega)
      omega
  · intro h
    rcases hb with hb | hb
    · have := u0 hb
      have := Int.mul_le_mul (show L0 ≤ L1 by omega) (show L0 ≤ L1 by omega) (show 0 ≤ L0 by omega) (show 0 ≤ L1 by omega)
      omega
    · exact hb
theorem bop_agree {gn : Int} {c n q : Nat} {F : Nat → Gau} (hg : 1 ≤ gn ∧ gn ≤ 10000000) (h1 : 1 ≤ c) (h3 : c ≤ 3) (hF : ∀ j, j < n → (F j).Within 100000000) (hq : q < n * (2 * c)) :
    (0 < bopF c (fun p => softP p gn c) F q → bopF c (fun p => hardP p gn c) F q = 0) ∧ (bopF c (fun p => softP p gn c) F q < 0 → bopF c (fun p => hardP p gn c) F q = 1) := by
  have hp : 0 < 2 * c := by omega
  have hj : q / (2 * c) < n := Nat.div_lt_of_lt_mul (by rw [Nat.mul_comm]; exact hq)
  have hr : q % (2 * c) < 2 * c := Nat.mod_lt _ hp
  have hw := hF _ hj
  have hpt : -100000000 ≤ (F (q / (2 * c))).part (q % (2 * c) % 2) ∧ (F (q / (2 * c))).part (q % (2 * c) % 2) ≤ 100000000 := by
    obtain h | h : q % (2 * c) % 2 = 0 ∨ q % (2 * c) % 2 = 1 := by omega
    · rw [h]; exact hw.re
    · rw [h]; exact hw.im
  exact hard_soft hpt hg h1 h3 (by omega)
/-- The answer of the code for right received symbols. -/
def greU (gn : Int) (n : Nat) (F : Nat → Gau) (m : Nat) (G : Nat → Gau) : Int × Int × Int := if symsE m G = 0 then greT gn n F m G else (0, 0, symsE m G)
theorem GreatestError_ok (k gn : Int) (A : Option Addr) (n d : Nat) (F : Nat → Gau) (A2 : Option Addr) (m d2 : Nat) (G : Nat → Gau) (w : World) (hn : n ≤ 100000) (hm : m ≤ 100000) (hI : GausAt w 0 A n F) (hJ : GausAt w 0 A2 m G) (hE : recvE k gn n F = 0) :
    Calls Try.prog 38 #[.agg #[.int .i64 k, .int .i64 gn, .slice A n d], .slice A2 m d2] w fun e w' => e = .returned (.tuple #[.int .i64 (greU gn n F m G).1, .int .i64 (greU gn n F m G).2.1, .int .i64 (greU gn n F m G).2.2]) ∧ Below w.heap.size w w' := by
  by_cases h : symsE m G = 0
  · have e : greU gn n F m G = greT gn n F m G := if_pos h
    rw [e]
    exact GreatestError_right k gn A n d F A2 m d2 G w hI hJ hE h
  · have e : greU gn n F m G = (0, 0, symsE m G) := if_neg h
    have eo : orS (recvE k gn n F) (symsE m G) = symsE m G := by unfold orS; rw [if_pos hE]
    rw [e]
    have := GreatestError_wrong k gn A n d F A2 m d2 G w hn hm hI hJ (by rw [eo]; exact h)
    rw [eo] at this
    exact this
theorem orS_left {a b : Int} (h : a ≠ 0) : orS a b = a := if_neg h
end Go.Proofs.Ytceohaeebdhmjaa
/- power of the reference, BitsOf of the base, LevelOf of the reference for any count. -/
namespace Go.Proofs.Ytceohaeebdhmjaa
open Go Go.RowKit Go.Lib Go.Shelf
set_option maxHeartbeats 4000000 in
set_option maxRecDepth 100000 in
theorem powerR_any (c : Nat) (w : World) (h6 : c ≤ 6) : Calls Try.prog 102 #[.int .i64 (c : Int)] w fun e w' => e = .returned (.int .i64 ((2 ^ c : Nat) : Int)) ∧ w = w' := by
  have HP := hide (fun k (h : k ≤ 6) => (show 2 ^ k ≤ 64 from (Nat.pow_le_pow_right (by decide) h : 2 ^ k ≤ 2 ^ 6)))
  go_enter Try.func102, Try.ntmps102
  go_wp2_with fail
  go_loopw [3, 4] (fun v i wr => ∃ k x : Nat, k ≤ c ∧ Hid (2 ^ k = x) ∧ v = .int .i64 (x : Int) ∧ i = .int .i64 (k : Int) ∧ w = wr) (fun _ i _ => c - (Go.RowKit.intOf i).toNat)
  case atStart => exact ⟨0, 1, Nat.zero_le _, hide rfl, by first | trivial | rfl, by first | trivial | rfl, by first | trivial | rfl⟩
  case round =>
    obtain ⟨k, x, hk, HX, rfl, rfl, hw⟩ := hrel
    subst hw
    have hx6 : x ≤ 64 := by rw [← HX.out]; exact HP.out k (by omega)
    by_cases hlt : k < c
    · have hltz : (k : Int) < (c : Int) := by omega
      have q1 : IntKind.i64.wrap (2 * (x : Int)) = ((2 * x : Nat) : Int) := by rw [IntWalk.i64_in _ (by omega)]; push_cast; rfl
      go_wp2_with fail
      go_roundw
      case rel => exact ⟨k + 1, 2 * x, by omega, hide (by rw [Nat.pow_succ, HX.out]; omega), by first | rfl | (simp; done) | go_num, by go_num, by first | trivial | rfl⟩
      case measure => simp [Go.RowKit.intOf] <;> omega
    · have hkc : k = c := by omega
      subst hkc
      have hltz : ¬ (k : Int) < (k : Int) := by omega
      have e1 : ((x : Nat) : Int) = ((2 ^ k : Nat) : Int) := by rw [HX.out]
      go_wp2_with fail
      go_ret
      exact ⟨by first | rfl | (simp [← e1]; done), rfl⟩
set_option maxHeartbeats 4000000 in
set_option maxRecDepth 100000 in
theorem BitsOfB_any (j c : Nat) (w : World) (hj : j < 64) (h1 : 1 ≤ c) (h6 : c ≤ 6) :
    Calls Try.prog 104 #[.int .i64 (j : Int), .int .i64 (c : Int)] w fun e w' => ∃ g, e = .returned (.slice (some ⟨g, 0, none⟩) c c) ∧ IntsAt w' 0 (some ⟨g, 0, none⟩) c (labF c j) ∧ Below w.heap.size w w' := by
  obtain ⟨i0, hi, hz0, hz1, hz2⟩ := info_parts intInfo
  have hmk := fun W => run_make_row (P := Try.prog) 59 3 i0 (.int .i64 0) Try.underlying59 hi hz0 hz1 rfl .i64 .i64 c (by rw [hz2]; omega) (by omega) W
  clear hi hz0 hz1 hz2
  have HL0 := hide (fun k p y => (show p = c - 1 - k → j / 2 ^ k = y → k < c → ((y % 2 : Nat) : Int) = labF c j p from fun e h hk => by
    unfold labF
    rw [show c - 1 - p = k by omega, h]))
  have HLS := hide (fun k p => (show p = c - 1 - k → k < c → setF (fun q => if c - k ≤ q then labF c j q else 0) p (labF c j p) = fun q => if c - (k + 1) ≤ q then labF c j q else 0 from fun e hk => by
    funext q
    show (if q = p then labF c j p else if c - k ≤ q then labF c j q else 0) = if c - (k + 1) ≤ q then labF c j q else 0
    by_cases h : q = p
    · subst h; rw [if_pos rfl, if_pos (by omega)]
    · rw [if_neg h]
      by_cases h2 : c - k ≤ q
      · rw [if_pos h2, if_pos (by omega)]
      · rw [if_neg h2, if_neg (by omega)]))
  obtain ⟨F, hF⟩ : ∃ z, labF c j = z := ⟨_, rfl⟩
  simp only [hF] at HL0 HLS ⊢
  clear hF
  go_enter Try.func104, Try.ntmps104
  go_upto_region 2 with fail
  obtain ⟨gL, hgL⟩ : ∃ z, w.heap.size = z := ⟨_, rfl⟩
  obtain ⟨w3, hw3⟩ : ∃ q' : World, q' = w.alloc (.cells (madeCells #[.int .i64 0] c) 3) := ⟨_, rfl⟩
  try rw [← hw3]
  have HL := hide (show OwnInts w3 gL (.slice (some ⟨gL, 0, none⟩) c c) c (fun p => if c - 0 ≤ p then F p else 0) by rw [hw3]; exact (ownS_zeros w gL gL c (by omega) hgL.symm (by unfold maxLen; omega)).congr fun p hp => (if_neg (by omega)).symm)
  have HB := hide (show Below gL w w3 by rw [hw3, ← hgL]; (repeat (first | (with_reducible exact Below.refl _ _) | (with_reducible refine Go.below_drewN ?_ _) | (with_reducible refine Below.drew ?_) | (with_reducible refine Below.alloc ?_ (by first | exact Nat.le_refl _ | (simp; done) | (simp; omega) | omega) _) | (with_reducible refine Below.setCell ?_ (by first | exact Nat.le_refl _ | (simp; done) | (simp; omega) | omega) _))))
  clear hw3
  try simp only [hgL]
  go_wp2_with fail
  go_loopw [0, 6] (fun n i wr => ∃ (k y : Nat) (z : Int), k ≤ c ∧ Hid (j / 2 ^ k = y) ∧ y < 64 ∧ Hid (z = (c : Int) - 1 - (k : Int)) ∧ n = .int .i64 (y : Int) ∧ i = .int .i64 z ∧ Hid (OwnInts wr gL (.slice (some ⟨gL, 0, none⟩) c c) c (fun q => if c - k ≤ q then F q else 0)) ∧ Hid (Below gL w wr)) (fun _ i _ => (Go.RowKit.intOf i + 1).toNat)
  case atStart => exact ⟨0, j, _, Nat.zero_le _, hide (by simp), hj, hide (by omega), rfl, rfl, HL, HB⟩
  case round =>
    clear HL HB
    obtain ⟨k, y, z, hk, HY, hy, HZ, rfl, rfl, HL, HB⟩ := hrel
    obtain ⟨wB, rfl⟩ : ∃ x : World, x = wr := ⟨_, rfl⟩
    by_cases hlt : k < c
    · obtain ⟨p, rfl⟩ : ∃ p : Nat, z = (p : Int) := ⟨z.toNat, by have := HZ.out; omega⟩
      have hpk : p = c - 1 - k := by have := HZ.out; omega
      have hpc : p < c := by omega
      have hpz : (p : Int) < (c : Int) := by omega
      obtain ⟨v, hv⟩ : ∃ z, F p = z := ⟨_, rfl⟩
      have q0 : ((y % 2 : Nat) : Int) = v := (HL0.out k p y hpk HY.out hlt).trans hv
      have q1 : Int.tmod (y : Int) 2 = v := by rw [Int.tmod_eq_emod_of_nonneg (by omega)]; omega
      have q2 : (y : Int) % 2 = v := by omega
      have q3 : Int.tdiv (y : Int) 2 = ((y / 2 : Nat) : Int) := by rw [Int.tdiv_eq_ediv_of_nonneg (by omega)]; omega
      have q4 : (y : Int) / 2 = ((y / 2 : Nat) : Int) := by omega
      obtain ⟨y2, hy2⟩ : ∃ z, y / 2 = z := ⟨_, rfl⟩
      rw [hy2] at q3 q4
      have HY2 := hide (show j / 2 ^ (k + 1) = y2 by rw [Nat.pow_succ, ← Nat.div_div_eq_div_mul, HY.out, hy2])
      have hy64 : y2 < 64 := by omega
      have c0 := HL.out.cellAt hpc
      have k0 := HL.out.frozen p
      have HL5 := hide (HL.out.set_ p v)
      rw [← hv, HLS.out k p hpk hlt, hv] at HL5
      have HB5 := hide (HB.out.setCell (p := ⟨gL, p, none⟩) (Nat.le_refl _) (.int .i64 v))
      clear hv HL HB q0 hy2 hpk
      go_wp2_with fail
      go_roundw
      case rel => exact ⟨k + 1, y2, (p : Int) - 1, by omega, HY2, hy64, hide (by have := HZ.out; omega), by first | rfl | (simp; done) | go_num, by go_num, HL5, HB5⟩
      case measure => simp [Go.RowKit.intOf] <;> omega
    · have hkc : k = c := by omega
      have hz0 : ¬ (0 : Int) ≤ z := by have := HZ.out; omega
      have hI := HL.out.atG (lo := 0) (Nat.zero_le _)
      have HI := hide (show IntsAt wB 0 (some ⟨gL, 0, none⟩) c F from hI.congr fun q _ => if_pos (by omega))
      clear hI HL HL0 HLS HY HZ hkc hlt
      go_wp2_with fail
      go_ret
      exact ⟨gL, rfl, HI.out, hgL ▸ HB.out⟩
theorem LevelOfR_any (b o c h : Nat) (F : Nat → Int) (w : World) (h1 : 1 ≤ h) (h3 : h ≤ 3) (hc : h ≤ c) (hc9 : c ≤ 9223372036854775807) (hF : ∀ j, j < h → IsBit (F j)) (hI : IntsAt w 0 (some ⟨b, o, none⟩) h F) :
    Calls Try.prog 106 #[.slice (some ⟨b, o, none⟩) h c] w fun e w' => e = .returned (.int .i64 (lvl h F)) ∧ w = w' := by
  obtain rfl | rfl | rfl : h = 1 ∨ h = 2 ∨ h = 3 := by omega
  · exact LevelOfR1_any b o c F w hc hc9 hF hI
  · exact LevelOfR2_any b o c F w hc hc9 hF hI
  · exact LevelOfR3_any b o c F w hc hc9 hF hI
end Go.Proofs.Ytceohaeebdhmjaa
/- BitsOf of the reference. -/
namespace Go.Proofs.Ytceohaeebdhmjaa
open Go Go.RowKit Go.Lib Go.Shelf
theorem first_ex (P : Nat → Prop) : ∀ N : Nat, (∃ n, n < N ∧ P n ∧ ∀ q, q < n → ¬ P q) ∨ (∀ q, q < N → ¬ P q) := fun N => by
  induction N with
  | zero => exact .inr fun q h => absurd h (Nat.not_lt_zero q)
  | succ N ih =>
    rcases ih with ⟨n, h1, h2, h3⟩ | h
    · exact .inl ⟨n, by omega, h2, h3⟩
    · by_cases hN : P N
      · exact .inl ⟨N, Nat.lt_succ_self _, hN, h⟩
      · exact .inr fun q hq => by
          by_cases e : q = N
          · subst e; exact hN
          · exact h q (by omega)
set_option maxHeartbeats 4000000 in
set_option maxRecDepth 100000 in
theorem BitsOfR_wrong (c v : Int) (w : World) (h : ¬ (1 ≤ c ∧ c ≤ 3)) :
    Calls Try.prog 103 #[.int .i64 c, .int .i64 v] w fun e w' => e = .returned (.tuple #[.slice none 0 0, .int .i64 2]) ∧ w = w' := by
  have hwi := fun W => within_any c 1 3 W
  simp only [withinB_no h] at hwi
  go_enter Try.func103, Try.ntmps103
  go_wp2_with (go_at_call 31; refine (hwi _).mono ?_; rintro e_ v_ ⟨rfl, rfl⟩)
  go_ret2
  exact ⟨rfl, rfl⟩
set_option maxHeartbeats 8000000 in
set_option maxRecDepth 100000 in
theorem BitsOfR_hit (c n : Nat) (v : Int) (w : World) (h1 : 1 ≤ c) (h3 : c ≤ 3) (hn : n < 2 ^ c) (hb : ∀ q, q < n → lvl c (labF c q) ≠ v) (ha : lvl c (labF c n) = v) :
    Calls Try.prog 103 #[.int .i64 (c : Int), .int .i64 v] w fun e w' => ∃ g, e = .returned (.tuple #[.slice (some ⟨g, 0, none⟩) c c, .int .i64 0]) ∧ IntsAt w' 0 (some ⟨g, 0, none⟩) c (labF c n) ∧ Below w.heap.size w w' := by
  have HPW := hide (fun W => powerR_any c W (by omega))
  have hN8 : 2 ^ c ≤ 8 := (Nat.pow_le_pow_right (by decide) h3 : 2 ^ c ≤ 2 ^ 3)
  obtain ⟨N, hN⟩ : ∃ N : Nat, 2 ^ c = N := ⟨_, rfl⟩
  rw [hN] at hn hN8 HPW
  have HBI := hide (fun j W (h : j < 64) => BitsOfB_any j c W h h1 (by omega))
  have HLV := hide (fun b j W hI => LevelOfR_any b 0 c c (labF c j) W h1 h3 (Nat.le_refl _) (by omega) (fun p _ => labF_bit c j p) hI)
  have HBB := hide hb
  have HAA := hide ha
  have hwi := fun W => within_any (c : Int) 1 3 W
  simp only [withinB_yes (show 1 ≤ (c : Int) ∧ (c : Int) ≤ 3 by omega)] at hwi
  have HB := hide (Below.refl w.heap.size w)
  clear hb ha hN
  go_enter Try.func103, Try.ntmps103
  go_wp2_with (go_at_call 31; refine (hwi _).mono ?_; rintro e_ v_ ⟨rfl, rfl⟩)
  go_loopw [6] (fun i wr => ∃ k : Nat, k ≤ n ∧ i = .int .i64 (k : Int) ∧ Hid (Below w.heap.size w wr)) (fun i _ => n - (Go.RowKit.intOf i).toNat)
  case atStart => exact ⟨0, Nat.zero_le _, rfl, HB⟩
  case round =>
    clear HB hwi
    obtain ⟨k, hk, rfl, HB⟩ := hrel
    obtain ⟨wA, rfl⟩ : ∃ x : World, x = wr := ⟨_, rfl⟩
    have hkN : (k : Int) < (N : Int) := by omega
    go_wp2_with fail
    refine (HPW.out _).mono ?_
    rintro e_ v_ ⟨rfl, rfl⟩
    go_wp2_with fail
    refine (HBI.out k _ (by omega)).mono ?_
    rintro e_ w2 ⟨g, rfl, hI, hb2⟩
    have HI := hide hI
    replace HB := hide (HB.out.trans (hb2.mono HB.out.size))
    clear hI hb2
    go_wp2_with fail
    have HLK := hide (HLV.out g k _ HI.out)
    obtain ⟨y, hy⟩ : ∃ z, lvl c (labF c k) = z := ⟨_, rfl⟩
    rw [hy] at HLK
    by_cases hlt : k < n
    · have hne : y ≠ v := hy ▸ HBB.out k hlt
      have t1 : (y == v) = false := by simpa using hne
      clear hy
      refine HLK.out.mono ?_
      rintro e_ v_ ⟨rfl, rfl⟩
      go_wp2_with fail
      go_roundw
      case rel => exact ⟨k + 1, by omega, by go_num, HB⟩
      case measure => simp [Go.RowKit.intOf] <;> omega
    · have hkn : k = n := by omega
      subst hkn
      have hyv : y = v := hy.symm.trans HAA.out
      subst hyv
      clear hy
      refine HLK.out.mono ?_
      rintro e_ v_ ⟨rfl, rfl⟩
      go_wp2_with fail
      go_ret2
      exact ⟨g, rfl, HI.out, HB.out⟩
set_option maxHeartbeats 8000000 in
set_option maxRecDepth 100000 in
theorem BitsOfR_miss (c : Nat) (v : Int) (w : World) (h1 : 1 ≤ c) (h3 : c ≤ 3) (hb : ∀ q, q < 2 ^ c → lvl c (labF c q) ≠ v) :
    Calls Try.prog 103 #[.int .i64 (c : Int), .int .i64 v] w fun e w' => e = .returned (.tuple #[.slice none 0 0, .int .i64 3]) ∧ Below w.heap.size w w' := by
  have HPW := hide (fun W => powerR_any c W (by omega))
  have hN8 : 2 ^ c ≤ 8 := (Nat.pow_le_pow_right (by decide) h3 : 2 ^ c ≤ 2 ^ 3)
  obtain ⟨N, hN⟩ : ∃ N : Nat, 2 ^ c = N := ⟨_, rfl⟩
  rw [hN] at hN8 HPW hb
  have HBI := hide (fun j W (h : j < 64) => BitsOfB_any j c W h h1 (by omega))
  have HLV := hide (fun b j W hI => LevelOfR_any b 0 c c (labF c j) W h1 h3 (Nat.le_refl _) (by omega) (fun p _ => labF_bit c j p) hI)
  have HBB := hide hb
  have hwi := fun W => within_any (c : Int) 1 3 W
  simp only [withinB_yes (show 1 ≤ (c : Int) ∧ (c : Int) ≤ 3 by omega)] at hwi
  have HB := hide (Below.refl w.heap.size w)
  clear hb hN
  go_enter Try.func103, Try.ntmps103
  go_wp2_with (go_at_call 31; refine (hwi _).mono ?_; rintro e_ v_ ⟨rfl, rfl⟩)
  go_loopw [6] (fun i wr => ∃ k : Nat, k ≤ N ∧ i = .int .i64 (k : Int) ∧ Hid (Below w.heap.size w wr)) (fun i _ => N - (Go.RowKit.intOf i).toNat)
  case atStart => exact ⟨0, Nat.zero_le _, rfl, HB⟩
  case round =>
    clear HB hwi
    obtain ⟨k, hk, rfl, HB⟩ := hrel
    obtain ⟨wA, rfl⟩ : ∃ x : World, x = wr := ⟨_, rfl⟩
    by_cases hlt : k < N
    · have hkN : (k : Int) < (N : Int) := by omega
      go_wp2_with fail
      refine (HPW.out _).mono ?_
      rintro e_ v_ ⟨rfl, rfl⟩
      go_wp2_with fail
      refine (HBI.out k _ (by omega)).mono ?_
      rintro e_ w2 ⟨g, rfl, hI, hb2⟩
      have HI := hide hI
      replace HB := hide (HB.out.trans (hb2.mono HB.out.size))
      clear hI hb2
      go_wp2_with fail
      have HLK := hide (HLV.out g k _ HI.out)
      obtain ⟨y, hy⟩ : ∃ z, lvl c (labF c k) = z := ⟨_, rfl⟩
      rw [hy] at HLK
      have hne : y ≠ v := hy ▸ HBB.out k hlt
      have t1 : (y == v) = false := by simpa using hne
      clear hy
      refine HLK.out.mono ?_
      rintro e_ v_ ⟨rfl, rfl⟩
      go_wp2_with fail
      go_roundw
      case rel => exact ⟨k + 1, by omega, by go_num, HB⟩
      case measure => simp [Go.RowKit.intOf] <;> omega
    · have hkN : ¬ (k : Int) < (N : Int) := by omega
      go_wp2_with fail
      refine (HPW.out _).mono ?_
      rintro e_ v_ ⟨rfl, rfl⟩
      go_wp2_with fail
      go_ret2
      exact ⟨rfl, HB.out⟩
end Go.Proofs.Ytceohaeebdhmjaa
/- BitsOf of the code. -/
namespace Go.Proofs.Ytceohaeebdhmjaa
open Go Go.RowKit Go.Lib Go.Shelf
attribute [local go_sem] Oper.semAt_some
/-- The answer: the bits of the first number whose level this is, or none. -/
def FoundB (c : Nat) (v : Int) (w : World) (e : Ending) (w' : World) : Prop := Below w.heap.size w w' ∧ ((∃ n g, n < 2 ^ c ∧ lvl c (labF c n) = v ∧ (∀ q, q < n → lvl c (labF c q) ≠ v) ∧ e = .returned (.tuple #[.slice (some ⟨g, 0, none⟩) c c, .int .i64 0]) ∧ IntsAt w' 0 (some ⟨g, 0, none⟩) c (labF c n)) ∨ ((∀ q, q < 2 ^ c → lvl c (labF c q) ≠ v) ∧ e = .returned (.tuple #[.slice none 0 0, .int .i64 3])))
structure BInv (w0 W : World) (B b3 b4 b5 c : Nat) (v : Int) (k : Nat) : Prop where
  arg : Box W b3 3 #[.int .i64 v]
  one : Box W b4 59 #[.slice none 0 0]
  two : Box W b5 26 #[.int .i64 0]
  none_ : ∀ q, q < k → lvl c (labF c q) ≠ v
  below : Below B w0 W
structure BHit (w0 W : World) (B b4 b5 lo c : Nat) (v : Int) (pre : List Nat) (x : Nat) : Prop where
  one : Box W b4 59 #[.slice (some ⟨x, 0, none⟩) c c]
  two : Box W b5 26 #[.int .i64 0]
  told : ToldL lo c pre x W
  hit : lvl c (labF c pre.length) = v
  small : pre.length < 2 ^ c
  none_ : ∀ q, q < pre.length → lvl c (labF c q) ≠ v
  below : Below B w0 W
section
variable {w0 W Y : World} {B b3 b4 b5 lo c k : Nat} {v : Int} {pre : List Nat} {x : Nat}
theorem BInv.roundly {row : Option Nat} (h : BInv w0 W B b3 b4 b5 c v k) (hg : W.grownBy Y row) (hB : B ≤ b3) (hr : ∀ r, row = some r → B ≤ r ∧ ∃ o : Obj, W.heap[r]? = some o ∧ o.isCells = false) : BInv w0 Y B b3 b4 b5 c v k :=
  ⟨h.arg.roundly hg fun r e => (hr r e).2, h.one.roundly hg fun r e => (hr r e).2, h.two.roundly hg fun r e => (hr r e).2, h.none_, h.below.grown hg (by have := h.arg.lt; omega) fun r e => (hr r e).1⟩
theorem BInv.under (h : BInv w0 W B b3 b4 b5 c v k) (hb : Below W.heap.size W Y) (hB : B ≤ b3) : BInv w0 Y B b3 b4 b5 c v k :=
  ⟨h.arg.below hb, h.one.below hb, h.two.below hb, h.none_, h.below.trans (hb.mono (by have := h.arg.lt; omega))⟩
theorem BHit.roundly {row : Option Nat} (h : BHit w0 W B b4 b5 lo c v pre x) (hg : W.grownBy Y row) (hB : B ≤ b4) (hr : ∀ r, row = some r → B ≤ r ∧ ∃ o : Obj, W.heap[r]? = some o ∧ o.isCells = false) : BHit w0 Y B b4 b5 lo c v pre x :=
  ⟨h.one.roundly hg fun r e => (hr r e).2, h.two.roundly hg fun r e => (hr r e).2, ⟨h.told.1, h.told.2.roundly hg fun r e => (hr r e).2⟩, h.hit, h.small, h.none_, h.below.grown hg (by have := h.one.lt; omega) fun r e => (hr r e).1⟩
end
end Go.Proofs.Ytceohaeebdhmjaa
/- LevelErr of the reference; short of the statements. -/
namespace Go.Proofs.Ytceohaeebdhmjaa
open Go.RowKit Go.Lib
end Go.Proofs.Ytceohaeebdhmjaa
/- The walk of SymbolLevels. -/
namespace Go.Proofs.Ytceohaeebdhmjaa
open Go Go.RowKit Go.Lib Ieee
theorem sign_eq {a b p q : Int} (ha : IsBit a) (hb : IsBit b) (hp : 0 < p) (hq : 0 < q) (h : (1 - 2 * a) * p = (1 - 2 * b) * q) : a = b ∧ p = q := by
  rcases ha with rfl | rfl <;> rcases hb with rfl | rfl
  · exact ⟨rfl, by omega⟩
  · exfalso; omega
  · exfalso; omega
  · exact ⟨rfl, by omega⟩
theorem lvl1_inj {F G : Nat → Int} (h : lvl 1 F = lvl 1 G) : F 0 = G 0 := by
  have h2 : 1 - 2 * F 0 = 1 - 2 * G 0 := h
  omega
theorem lvl2_inj {F G : Nat → Int} (hF : ∀ j, j < 2 → IsBit (F j)) (hG : ∀ j, j < 2 → IsBit (G j)) (h : lvl 2 F = lvl 2 G) : F 0 = G 0 ∧ F 1 = G 1 := by
  rw [lvl_two, lvl_two] at h
  have a := lvl1_le (F := fun j => F (j + 1)) fun j hj => hF (j + 1) (by omega)
  have b := lvl1_le (F := fun j => G (j + 1)) fun j hj => hG (j + 1) (by omega)
  obtain ⟨h1, h2⟩ := sign_eq (hF 0 (by decide)) (hG 0 (by decide)) (by omega) (by omega) h
  exact ⟨h1, lvl1_inj (F := fun j => F (j + 1)) (G := fun j => G (j + 1)) (by omega)⟩
theorem lvl3_inj {F G : Nat → Int} (hF : ∀ j, j < 3 → IsBit (F j)) (hG : ∀ j, j < 3 → IsBit (G j)) (h : lvl 3 F = lvl 3 G) : F 0 = G 0 ∧ F 1 = G 1 ∧ F 2 = G 2 := by
  rw [lvl_three, lvl_three] at h
  have a := lvl2_le (F := fun j => F (j + 1)) fun j hj => hF (j + 1) (by omega)
  have b := lvl2_le (F := fun j => G (j + 1)) fun j hj => hG (j + 1) (by omega)
  obtain ⟨h1, h2⟩ := sign_eq (hF 0 (by decide)) (hG 0 (by decide)) (by omega) (by omega) h
  have h3 := lvl2_inj (F := fun j => F (j + 1)) (G := fun j => G (j + 1)) (fun j hj => hF (j + 1) (by omega)) (fun j hj => hG (j + 1) (by omega)) (by omega)
  exact ⟨h1, h3.1, h3.2⟩
theorem lvl_inj {c : Nat} {F G : Nat → Int} (h1 : 1 ≤ c) (h3 : c ≤ 3) (hF : ∀ j, j < c → IsBit (F j)) (hG : ∀ j, j < c → IsBit (G j)) (h : lvl c F = lvl c G) : ∀ j, j < c → F j = G j := by
  obtain rfl | rfl | rfl : c = 1 ∨ c = 2 ∨ c = 3 := by omega
  · intro j hj
    obtain rfl : j = 0 := by omega
    exact lvl1_inj h
  · have := lvl2_inj hF hG h
    intro j hj
    obtain rfl | rfl : j = 0 ∨ j = 1 := by omega
    · exact this.1
    · exact this.2
  · have := lvl3_inj hF hG h
    intro j hj
    obtain rfl | rfl | rfl : j = 0 ∨ j = 1 ∨ j = 2 := by omega
    · exact this.1
    · exact this.2.1
    · exact this.2.2
theorem lab_ex {c : Nat} {F : Nat → Int} (h1 : 1 ≤ c) (h3 : c ≤ 3) (hF : ∀ j, j < c → IsBit (F j)) : ∃ n, n < 2 ^ c ∧ ∀ j, j < c → labF c n j = F j := by
  obtain rfl | rfl | rfl : c = 1 ∨ c = 2 ∨ c = 3 := by omega
  · have a := hF 0 (by decide)
    refine ⟨(F 0).toNat, by rcases a with a | a <;> rw [a] <;> decide, fun j hj => ?_⟩
    obtain rfl : j = 0 := by omega
    rcases a with a | a <;> rw [a] <;> decide
  · have a := hF 0 (by decide)
    have b := hF 1 (by decide)
    refine ⟨(F 0).toNat * 2 + (F 1).toNat, by rcases a with a | a <;> rcases b with b | b <;> rw [a, b] <;> decide, fun j hj => ?_⟩
    obtain rfl | rfl : j = 0 ∨ j = 1 := by omega
    · rcases a with a | a <;> rcases b with b | b <;> rw [a, b] <;> decide
    · rcases a with a | a <;> rcases b with b | b <;> rw [a, b] <;> decide
  · have a := hF 0 (by decide)
    have b := hF 1 (by decide)
    have d := hF 2 (by decide)
    refine ⟨(F 0).toNat * 4 + (F 1).toNat * 2 + (F 2).toNat, by rcases a with a | a <;> rcases b with b | b <;> rcases d with d | d <;> rw [a, b, d] <;> decide, fun j hj => ?_⟩
    obtain rfl | rfl | rfl : j = 0 ∨ j = 1 ∨ j = 2 := by omega
    · rcases a with a | a <;> rcases b with b | b <;> rcases d with d | d <;> rw [a, b, d] <;> decide
    · rcases a with a | a <;> rcases b with b | b <;> rcases d with d | d <;> rw [a, b, d] <;> decide
    · rcases a with a | a <;> rcases b with b | b <;> rcases d with d | d <;> rw [a, b, d] <;> decide
theorem lvl_same {c : Nat} {F G : Nat → Int} (h1 : 1 ≤ c) (h3 : c ≤ 3) (h : ∀ j, j < c → F j = G j) : lvl c F = lvl c G := by
  obtain rfl | rfl | rfl : c = 1 ∨ c = 2 ∨ c = 3 := by omega
  · show 1 - 2 * F 0 = 1 - 2 * G 0
    rw [h 0 (by decide)]
  · show (1 - 2 * F 0) * (2 ^ 1 - (1 - 2 * F 1)) = (1 - 2 * G 0) * (2 ^ 1 - (1 - 2 * G 1))
    rw [h 0 (by decide), h 1 (by decide)]
  · show (1 - 2 * F 0) * (2 ^ 2 - (1 - 2 * F 1) * (2 ^ 1 - (1 - 2 * F 2))) = (1 - 2 * G 0) * (2 ^ 2 - (1 - 2 * G 1) * (2 ^ 1 - (1 - 2 * G 2)))
    rw [h 0 (by decide), h 1 (by decide), h 2 (by decide)]
end Go.Proofs.Ytceohaeebdhmjaa
/- soft of the reference. -/
namespace Go.Proofs.Ytceohaeebdhmjaa
open Go Go.RowKit Go.Lib
/-- Whether one of the first k numbers has the bit b at place p; the least square of a distance of those. -/
def sSome (c p : Nat) : Nat → Nat → Bool
  | 0, _ => false
  | k + 1, b => if labF c k p = (b : Int) then true else sSome c p k b
def sSq (D : Nat → Int) (c p : Nat) : Nat → Nat → Int
  | 0, _ => 0
  | k + 1, b => if labF c k p = (b : Int) then (if sSome c p k b = false then D k * D k else if D k * D k < sSq D c p k b then D k * D k else sSq D c p k b) else sSq D c p k b
theorem sSome_hit {c p b : Nat} : ∀ {k j : Nat}, j < k → labF c j p = (b : Int) → sSome c p k b = true
  | 0, _, h, _ => absurd h (Nat.not_lt_zero _)
  | k + 1, j, h, e => by
    unfold sSome
    by_cases hk : labF c k p = (b : Int)
    · rw [if_pos hk]
    · rw [if_neg hk]
      have : j ≠ k := fun z => hk (z ▸ e)
      exact sSome_hit (show j < k by omega) e
theorem sq_lt {x y : Int} (hx : 0 ≤ x) (hy : 0 ≤ y) : x * x < y * y ↔ x < y := by
  constructor
  · intro h
    by_cases e : x < y
    · exact e
    · have := Int.mul_le_mul (show y ≤ x by omega) (show y ≤ x by omega) hy hx
      omega
  · intro h
    have h1 := Int.mul_le_mul_of_nonneg_left (show x ≤ y by omega) hx
    have h2 := Int.mul_lt_mul_of_pos_right h (show 0 < y by omega)
    omega
theorem sSq_is {D : Nat → Int} {c p : Nat} (hD : ∀ j, 0 ≤ D j ∧ D j < 9223372036854775807) : ∀ {k b : Nat}, if sSome c p k b = true then sSq D c p k b = leastTo D c k p b * leastTo D c k p b else sSq D c p k b = 0 ∧ leastTo D c k p b = 9223372036854775807
  | 0, b => by unfold sSome sSq leastTo; simp
  | k + 1, b => by
    have ih := sSq_is hD (c := c) (p := p) (k := k) (b := b)
    have hl := leastTo_low (D := D) (c := c) (fun j => (hD j).1) (k := k) (p := p) (b := b)
    have hd := hD k
    unfold sSome sSq leastTo
    by_cases hk : labF c k p = (b : Int)
    · simp only [if_pos hk, if_true]
      by_cases hs : sSome c p k b = true
      · rw [if_pos hs] at ih
        rw [if_neg (by rw [hs]; decide), ih]
        by_cases h : D k * D k < leastTo D c k p b * leastTo D c k p b
        · rw [if_pos h]
          have := (sq_lt hd.1 hl.1).1 h
          rw [Int.min_eq_right (by omega)]
        · rw [if_neg h]
          have : ¬ D k < leastTo D c k p b := fun z => h ((sq_lt hd.1 hl.1).2 z)
          rw [Int.min_eq_left (by omega)]
      · rw [if_neg hs] at ih
        rw [if_pos (by simpa using hs), ih.2, Int.min_eq_right (by omega)]
    · simp only [if_neg hk]
      exact ih
theorem Box.r2a {w : World} {b : Nat} {t : TypeId} {x y : Value} (h : Box w b t #[x, y]) (u : Value) : Box (w.setCell ⟨b, 0, none⟩ u) b t #[u, y] := by
  have := h.set_ 0 u
  simpa using this
theorem Box.r2b {w : World} {b : Nat} {t : TypeId} {x y : Value} (h : Box w b t #[x, y]) (u : Value) : Box (w.setCell ⟨b, 1, none⟩ u) b t #[x, u] := by
  have := h.set_ 1 u
  simpa using this
theorem Box.r2 {w : World} {b : Nat} {t : TypeId} {x y : Value} (h : Box w b t #[x, y]) : w.cell? ⟨b, 0, none⟩ = some x ∧ w.cell? ⟨b, 1, none⟩ = some y ∧ w.frozen? ⟨b, 0, none⟩ = false ∧ w.frozen? ⟨b, 1, none⟩ = false ∧ b < w.heap.size := ⟨h.at_ 0, h.at_ 1, h.free 0, h.free 1, h.lt⟩
theorem ints_cell {w : World} {g n i : Nat} {F : Nat → Int} (h : IntsAt w 0 (some ⟨g, 0, none⟩) n F) (hi : i < n) : w.cell? ⟨g, i, none⟩ = some (.int .i64 (F i)) ∧ g < w.heap.size := by
  obtain ⟨b, o, e, -, h2, h3⟩ := h i hi
  injection e with e
  injection e with e1 e2
  subst e1; subst e2
  rw [Nat.zero_add] at h3
  exact ⟨h3, h2⟩
set_option maxHeartbeats 8000000 in
set_option maxRecDepth 100000 in
theorem soft_any (p g : Int) (c i : Nat) (w : World) (hp : -100000000 ≤ p ∧ p ≤ 100000000) (hg : 1 ≤ g ∧ g ≤ 10000000) (h1 : 1 ≤ c) (h3 : c ≤ 3) (hi : i < c) :
    Calls Try.prog 81 #[.int .i64 (c : Int), .int .i64 g, .int .i64 p, .int .i64 (i : Int)] w fun e w' => e = .returned (.int .i64 (softP p g c i)) ∧ Below w.heap.size w w' := by
  have hN8 : 2 ^ c ≤ 8 := (Nat.pow_le_pow_right (by decide) h3 : 2 ^ c ≤ 2 ^ 3)
  have HPW := hide (fun W => powerR_any c W (by omega))
  have HBB := hide (fun k (h : k < 2 ^ c) W => BitsOfB_any k c W (by omega) h1 (by omega))
  have HLV := hide (fun k gb W (h : IntsAt W 0 (some ⟨gb, 0, none⟩) c (labF c k)) => LevelOfR_any gb 0 c c (labF c k) W h1 h3 (Nat.le_refl _) (by omega) (fun j _ => labF_bit c k j) h)
  have HGL := hide (fun k => gl_le hg (lvl_le h1 h3 fun q _ => labF_bit c k q))
  have HBT := hide (fun k => labF_bit c k i)
  have HD := hide (fun j => distF_le (p := p) (g := g) (c := c) (j := j) hp hg h1 h3)
  have HDE := hide (fun j => (show (p - g * lvl c (labF c j)) * (p - g * lvl c (labF c j)) = distF p g c j * distF p g c j from (Int.natAbs_mul_self' _).symm))
  have HSS := hide (fun k b => (show sSome c i (k + 1) b = if labF c k i = ((b : Nat) : Int) then true else sSome c i k b from rfl))
  have HSQ := hide (fun k b => (show sSq (distF p g c) c i (k + 1) b = if labF c k i = ((b : Nat) : Int) then (if sSome c i k b = false then distF p g c k * distF p g c k else if distF p g c k * distF p g c k < sSq (distF p g c) c i k b then distF p g c k * distF p g c k else sSq (distF p g c) c i k b) else sSq (distF p g c) c i k b from rfl))
  have HS0 := hide (fun b => (show sSome c i 0 b = false from rfl))
  have HQ0 := hide (fun b => (show sSq (distF p g c) c i 0 b = 0 from rfl))
  have HFIN := hide (show IntKind.i64.wrap (sSq (distF p g c) c i (2 ^ c) 1 - sSq (distF p g c) c i (2 ^ c) 0) = softP p g c i from by
    have hb : ∀ b, b < 2 → sSq (distF p g c) c i (2 ^ c) b = leastTo (distF p g c) c (2 ^ c) i b * leastTo (distF p g c) c (2 ^ c) i b ∧ 0 ≤ leastTo (distF p g c) c (2 ^ c) i b ∧ leastTo (distF p g c) c (2 ^ c) i b ≤ 170000000 := fun b hb => by
      obtain ⟨j, hj, e⟩ := labF_some hi hb
      have h5 := sSq_is (D := distF p g c) (c := c) (p := i) (fun j => by have := HD.out j; omega) (k := 2 ^ c) (b := b)
      rw [if_pos (sSome_hit hj e)] at h5
      exact ⟨h5, leastTo_end hi hb HD.out⟩
    obtain ⟨a1, a2⟩ := hb 0 (by decide)
    obtain ⟨b1, b2⟩ := hb 1 (by decide)
    rw [a1, b1]
    have a3 := sq_le a2
    have b3 := sq_le b2
    unfold softP
    exact IntWalk.i64_in _ (by omega))
  obtain ⟨S, hS⟩ : ∃ z, sSome c i = z := ⟨_, rfl⟩
  obtain ⟨D, hD⟩ : ∃ z, distF p g c = z := ⟨_, rfl⟩
  obtain ⟨N, hN⟩ : ∃ z, 2 ^ c = z := ⟨_, rfl⟩
  simp only [hD, hS, hN] at HPW HBB HD HDE HSS HSQ HS0 HQ0 HFIN hN8
  obtain ⟨Q, hQ⟩ : ∃ z, sSq D c i = z := ⟨_, rfl⟩
  simp only [hQ] at HSQ HQ0 HFIN
  obtain ⟨R, hR⟩ : ∃ z, softP p g c i = z := ⟨_, rfl⟩
  rw [hR] at HFIN ⊢
  clear hS hD hN hQ hR
  go_enter Try.func81, Try.ntmps81
  go_upto_region 3 with fail
  obtain ⟨w2, hw2⟩ : ∃ q : World, q = (w.alloc (.cells #[.int .i64 0, .int .i64 0] 105)).alloc (.cells #[.bool false, .bool false] 128) := ⟨_, rfl⟩
  try rw [← hw2]
  have HX := hide (show Box w2 w.heap.size 105 #[.int .i64 (Q 0 0), .int .i64 (Q 0 1)] by rw [HQ0.out, HQ0.out, hw2]; exact (Box.made rfl).alloc _)
  have HY := hide (show Box w2 (w.heap.size + 1) 128 #[.bool (S 0 0), .bool (S 0 1)] by rw [HS0.out, HS0.out, hw2]; exact Box.made (by simp))
  have HB := hide (show Below w.heap.size w w2 by rw [hw2]; (repeat (first | (with_reducible exact Below.refl _ _) | (with_reducible refine Go.below_drewN ?_ _) | (with_reducible refine Below.drew ?_) | (with_reducible refine Below.alloc ?_ (by first | exact Nat.le_refl _ | (simp; done) | (simp; omega) | omega) _) | (with_reducible refine Below.setCell ?_ (by first | exact Nat.le_refl _ | (simp; done) | (simp; omega) | omega) _))))
  obtain ⟨b9, hb9⟩ : ∃ z, w.heap.size = z := ⟨_, rfl⟩
  obtain ⟨b0, hb0⟩ : ∃ z, b9 + 1 = z := ⟨_, rfl⟩
  simp only [hb9, hb0] at HX HY HB ⊢
  have h90 : b9 < b0 := by omega
  clear hw2 HS0 HQ0 hb0
  go_wp2_with fail
  go_loopw [12, 13, 14, 11] (fun _ _ _ n wr => ∃ k : Nat, k ≤ N ∧ n = .int .i64 (k : Int) ∧ Hid (Box wr b9 105 #[.int .i64 (Q k 0), .int .i64 (Q k 1)]) ∧ Hid (Box wr b0 128 #[.bool (S k 0), .bool (S k 1)]) ∧ Hid (Below b9 w wr)) (fun _ _ _ n _ => N - (Go.RowKit.intOf n).toNat)
  case atStart => exact ⟨0, Nat.zero_le _, rfl, HX, HY, HB⟩
  case round =>
    clear HX HY HB
    obtain ⟨k, hk, rfl, HX, HY, HB⟩ := hrel
    obtain ⟨wA, rfl⟩ : ∃ x : World, x = wr := ⟨_, rfl⟩
    by_cases hlt : k < N
    case neg =>
      obtain rfl : N = k := by omega
      have hltz : ¬ (N : Int) < (N : Int) := by omega
      have qf := HFIN.out
      obtain ⟨x0, x1, f0, f1, hlx⟩ := HX.out.r2
      clear HFIN HBB HLV HGL HBT HD HDE HSS HSQ
      go_wp2_with (go_at_call 102; refine (HPW.out _).mono ?_; rintro e_ v_ ⟨rfl, rfl⟩)
      go_ret
      subst hb9
      first | exact ⟨rfl, HB.out⟩ | exact HB.out
    have hltz : (k : Int) < (N : Int) := by omega
    have HBBk := hide (fun W => HBB.out k hlt W)
    have HLVk := hide (fun gb W h => HLV.out k gb W h)
    have hgl := HGL.out k
    have hbt := HBT.out k
    have hd := HD.out k
    have hde := HDE.out k
    have hss := fun b => HSS.out k b
    have hsq := fun b => HSQ.out k b
    have HTC := hide (fun gb W (h : IntsAt W 0 (some ⟨gb, 0, none⟩) c (labF c k)) => ints_cell h hi)
    obtain ⟨v, hv⟩ : ∃ z, lvl c (labF c k) = z := ⟨_, rfl⟩
    rw [hv] at hgl hde
    simp only [hv] at HLVk
    obtain ⟨x, hx⟩ : ∃ z, labF c k i = z := ⟨_, rfl⟩
    simp only [hx] at hbt hss hsq HTC
    obtain ⟨gv, hgv⟩ : ∃ z, g * v = z := ⟨_, rfl⟩
    rw [hgv] at hgl hde
    have q1 : IntKind.i64.wrap (g * v) = gv := by rw [hgv]; exact IntWalk.i64_in _ (by omega)
    have q2 : IntKind.i64.wrap (p - gv) = p - gv := IntWalk.i64_in _ (by omega)
    have HSR := hide (fun W1 => square_any (p - gv) W1 (by omega))
    simp only [hde] at HSR
    obtain ⟨u, hu⟩ : ∃ z, D k * D k = z := ⟨_, rfl⟩
    simp only [hu] at HSR hsq
    have hs0 := hss 0
    have hs1 := hss 1
    have hq0 := hsq 0
    have hq1 := hsq 1
    obtain ⟨s0, es0⟩ : ∃ z, S k 0 = z := ⟨_, rfl⟩
    obtain ⟨s1, es1⟩ : ∃ z, S k 1 = z := ⟨_, rfl⟩
    obtain ⟨m0, em0⟩ : ∃ z, Q k 0 = z := ⟨_, rfl⟩
    obtain ⟨m1, em1⟩ : ∃ z, Q k 1 = z := ⟨_, rfl⟩
    rw [es0] at hs0 hq0 HY
    rw [es1] at hs1 hq1 HY
    rw [em0] at hq0 HX
    rw [em1] at hq1 HX
    clear hv hx hgv hu hde hd hgl hss hsq es0 es1 em0 em1 HFIN HBB HLV HGL HBT HD HDE HSS HSQ
    have hiz : (i : Int) < (c : Int) := by omega
    have hk9 : (k : Int) < 9 := by omega
    rcases hbt with e | e
    · skip
      subst e
      rw [if_pos (by decide)] at hs0 hq0
      rw [if_neg (by decide)] at hs1 hq1
      by_cases hs : s0 = true
      case neg =>
        replace hs : s0 = false := by simpa using hs
        subst hs
        rw [if_pos rfl] at hq0
        go_wp2_with (first
          | (go_at_call 102; refine (HPW.out _).mono ?_; rintro e_ v_ ⟨rfl, rfl⟩)
          | (go_at_call 104; refine (HBBk.out _).mono ?_; rintro e_ w_2 ⟨gb, rfl, hI, hb_2⟩; have HI := hide hI; obtain ⟨c0, hgl⟩ := HTC.out gb _ hI; replace HX := hide (HX.out.below hb_2); replace HY := hide (HY.out.below hb_2); have hlX := HX.out.lt; replace HB := hide (HB.out.trans (hb_2.mono (by first | (have := HB.out.size; omega) | (rw [← hb9]; exact HB.out.size)))); clear hI hb_2; obtain ⟨x0, x1, f0, f1, hlx⟩ := HX.out.r2; obtain ⟨y0, y1, g0, g1, hly⟩ := HY.out.r2)
          | (go_at_call 106; refine (HLVk.out gb _ HI.out).mono ?_; rintro e_ v_ ⟨rfl, rfl⟩)
          | (go_at_call 105; refine (HSR.out _).mono ?_; rintro e_ v_ ⟨rfl, hv_⟩; have hv_ := hv_.symm; subst hv_))
        replace HX := hide ((HX.out.r2a (.int .i64 u)).other (p := ⟨b0, 0, none⟩) (by show b9 ≠ b0; omega) (.bool true))
        replace HY := hide ((HY.out.other (p := ⟨b9, 0, none⟩) (by show b0 ≠ b9; omega) (.int .i64 u)).r2a (.bool true))
        replace HB := hide ((HB.out.setCell (p := ⟨b9, 0, none⟩) (Nat.le_refl _) (.int .i64 u)).setCell (p := ⟨b0, 0, none⟩) (Nat.le_of_lt h90) (.bool true))
        go_roundw
        case rel => exact ⟨k + 1, by omega, by go_num, by rw [hq0, hq1]; exact HX, by rw [hs0, hs1]; exact HY, HB⟩
        case measure => simp [Go.RowKit.intOf]; omega
      subst hs
      rw [if_neg (by decide)] at hq0
      by_cases hu : u < m0
      case pos =>
        rw [if_pos hu] at hq0
        go_wp2_with (first
          | (go_at_call 102; refine (HPW.out _).mono ?_; rintro e_ v_ ⟨rfl, rfl⟩)
          | (go_at_call 104; refine (HBBk.out _).mono ?_; rintro e_ w_2 ⟨gb, rfl, hI, hb_2⟩; have HI := hide hI; obtain ⟨c0, hgl⟩ := HTC.out gb _ hI; replace HX := hide (HX.out.below hb_2); replace HY := hide (HY.out.below hb_2); have hlX := HX.out.lt; replace HB := hide (HB.out.trans (hb_2.mono (by first | (have := HB.out.size; omega) | (rw [← hb9]; exact HB.out.size)))); clear hI hb_2; obtain ⟨x0, x1, f0, f1, hlx⟩ := HX.out.r2; obtain ⟨y0, y1, g0, g1, hly⟩ := HY.out.r2)
          | (go_at_call 106; refine (HLVk.out gb _ HI.out).mono ?_; rintro e_ v_ ⟨rfl, rfl⟩)
          | (go_at_call 105; refine (HSR.out _).mono ?_; rintro e_ v_ ⟨rfl, hv_⟩; have hv_ := hv_.symm; subst hv_))
        replace HX := hide ((HX.out.r2a (.int .i64 u)).other (p := ⟨b0, 0, none⟩) (by show b9 ≠ b0; omega) (.bool true))
        replace HY := hide ((HY.out.other (p := ⟨b9, 0, none⟩) (by show b0 ≠ b9; omega) (.int .i64 u)).r2a (.bool true))
        replace HB := hide ((HB.out.setCell (p := ⟨b9, 0, none⟩) (Nat.le_refl _) (.int .i64 u)).setCell (p := ⟨b0, 0, none⟩) (Nat.le_of_lt h90) (.bool true))
        go_roundw
        case rel => exact ⟨k + 1, by omega, by go_num, by rw [hq0, hq1]; exact HX, by rw [hs0, hs1]; exact HY, HB⟩
        case measure => simp [Go.RowKit.intOf]; omega
      rw [if_neg hu] at hq0
      go_wp2_with (first
        | (go_at_call 102; refine (HPW.out _).mono ?_; rintro e_ v_ ⟨rfl, rfl⟩)
        | (go_at_call 104; refine (HBBk.out _).mono ?_; rintro e_ w_2 ⟨gb, rfl, hI, hb_2⟩; have HI := hide hI; obtain ⟨c0, hgl⟩ := HTC.out gb _ hI; replace HX := hide (HX.out.below hb_2); replace HY := hide (HY.out.below hb_2); have hlX := HX.out.lt; replace HB := hide (HB.out.trans (hb_2.mono (by first | (have := HB.out.size; omega) | (rw [← hb9]; exact HB.out.size)))); clear hI hb_2; obtain ⟨x0, x1, f0, f1, hlx⟩ := HX.out.r2; obtain ⟨y0, y1, g0, g1, hly⟩ := HY.out.r2)
        | (go_at_call 106; refine (HLVk.out gb _ HI.out).mono ?_; rintro e_ v_ ⟨rfl, rfl⟩)
        | (go_at_call 105; refine (HSR.out _).mono ?_; rintro e_ v_ ⟨rfl, hv_⟩; have hv_ := hv_.symm; subst hv_))
      go_roundw
      case rel => exact ⟨k + 1, by omega, by go_num, by rw [hq0, hq1]; exact HX, by rw [hs0, hs1]; exact HY, HB⟩
      case measure => simp [Go.RowKit.intOf]; omega
    · skip
      subst e
      rw [if_pos (by decide)] at hs1 hq1
      rw [if_neg (by decide)] at hs0 hq0
      by_cases hs : s1 = true
      case neg =>
        replace hs : s1 = false := by simpa using hs
        subst hs
        rw [if_pos rfl] at hq1
        go_wp2_with (first
          | (go_at_call 102; refine (HPW.out _).mono ?_; rintro e_ v_ ⟨rfl, rfl⟩)
          | (go_at_call 104; refine (HBBk.out _).mono ?_; rintro e_ w_2 ⟨gb, rfl, hI, hb_2⟩; have HI := hide hI; obtain ⟨c0, hgl⟩ := HTC.out gb _ hI; replace HX := hide (HX.out.below hb_2); replace HY := hide (HY.out.below hb_2); have hlX := HX.out.lt; replace HB := hide (HB.out.trans (hb_2.mono (by first | (have := HB.out.size; omega) | (rw [← hb9]; exact HB.out.size)))); clear hI hb_2; obtain ⟨x0, x1, f0, f1, hlx⟩ := HX.out.r2; obtain ⟨y0, y1, g0, g1, hly⟩ := HY.out.r2)
          | (go_at_call 106; refine (HLVk.out gb _ HI.out).mono ?_; rintro e_ v_ ⟨rfl, rfl⟩)
          | (go_at_call 105; refine (HSR.out _).mono ?_; rintro e_ v_ ⟨rfl, hv_⟩; have hv_ := hv_.symm; subst hv_))
        replace HX := hide ((HX.out.r2b (.int .i64 u)).other (p := ⟨b0, 1, none⟩) (by show b9 ≠ b0; omega) (.bool true))
        replace HY := hide ((HY.out.other (p := ⟨b9, 1, none⟩) (by show b0 ≠ b9; omega) (.int .i64 u)).r2b (.bool true))
        replace HB := hide ((HB.out.setCell (p := ⟨b9, 1, none⟩) (Nat.le_refl _) (.int .i64 u)).setCell (p := ⟨b0, 1, none⟩) (Nat.le_of_lt h90) (.bool true))
        go_roundw
        case rel => exact ⟨k + 1, by omega, by go_num, by rw [hq0, hq1]; exact HX, by rw [hs0, hs1]; exact HY, HB⟩
        case measure => simp [Go.RowKit.intOf]; omega
      subst hs
      rw [if_neg (by decide)] at hq1
      by_cases hu : u < m1
      case pos =>
        rw [if_pos hu] at hq1
        go_wp2_with (first
          | (go_at_call 102; refine (HPW.out _).mono ?_; rintro e_ v_ ⟨rfl, rfl⟩)
          | (go_at_call 104; refine (HBBk.out _).mono ?_; rintro e_ w_2 ⟨gb, rfl, hI, hb_2⟩; have HI := hide hI; obtain ⟨c0, hgl⟩ := HTC.out gb _ hI; replace HX := hide (HX.out.below hb_2); replace HY := hide (HY.out.below hb_2); have hlX := HX.out.lt; replace HB := hide (HB.out.trans (hb_2.mono (by first | (have := HB.out.size; omega) | (rw [← hb9]; exact HB.out.size)))); clear hI hb_2; obtain ⟨x0, x1, f0, f1, hlx⟩ := HX.out.r2; obtain ⟨y0, y1, g0, g1, hly⟩ := HY.out.r2)
          | (go_at_call 106; refine (HLVk.out gb _ HI.out).mono ?_; rintro e_ v_ ⟨rfl, rfl⟩)
          | (go_at_call 105; refine (HSR.out _).mono ?_; rintro e_ v_ ⟨rfl, hv_⟩; have hv_ := hv_.symm; subst hv_))
        replace HX := hide ((HX.out.r2b (.int .i64 u)).other (p := ⟨b0, 1, none⟩) (by show b9 ≠ b0; omega) (.bool true))
        replace HY := hide ((HY.out.other (p := ⟨b9, 1, none⟩) (by show b0 ≠ b9; omega) (.int .i64 u)).r2b (.bool true))
        replace HB := hide ((HB.out.setCell (p := ⟨b9, 1, none⟩) (Nat.le_refl _) (.int .i64 u)).setCell (p := ⟨b0, 1, none⟩) (Nat.le_of_lt h90) (.bool true))
        go_roundw
        case rel => exact ⟨k + 1, by omega, by go_num, by rw [hq0, hq1]; exact HX, by rw [hs0, hs1]; exact HY, HB⟩
        case measure => simp [Go.RowKit.intOf]; omega
      rw [if_neg hu] at hq1
      go_wp2_with (first
        | (go_at_call 102; refine (HPW.out _).mono ?_; rintro e_ v_ ⟨rfl, rfl⟩)
        | (go_at_call 104; refine (HBBk.out _).mono ?_; rintro e_ w_2 ⟨gb, rfl, hI, hb_2⟩; have HI := hide hI; obtain ⟨c0, hgl⟩ := HTC.out gb _ hI; replace HX := hide (HX.out.below hb_2); replace HY := hide (HY.out.below hb_2); have hlX := HX.out.lt; replace HB := hide (HB.out.trans (hb_2.mono (by first | (have := HB.out.size; omega) | (rw [← hb9]; exact HB.out.size)))); clear hI hb_2; obtain ⟨x0, x1, f0, f1, hlx⟩ := HX.out.r2; obtain ⟨y0, y1, g0, g1, hly⟩ := HY.out.r2)
        | (go_at_call 106; refine (HLVk.out gb _ HI.out).mono ?_; rintro e_ v_ ⟨rfl, rfl⟩)
        | (go_at_call 105; refine (HSR.out _).mono ?_; rintro e_ v_ ⟨rfl, hv_⟩; have hv_ := hv_.symm; subst hv_))
      go_roundw
      case rel => exact ⟨k + 1, by omega, by go_num, by rw [hq0, hq1]; exact HX, by rw [hs0, hs1]; exact HY, HB⟩
      case measure => simp [Go.RowKit.intOf]; omega
end Go.Proofs.Ytceohaeebdhmjaa
/- Mathematics of SymbolSigns: an error less than the gain keeps the hard bits, and the signs of the soft bits. -/
namespace Go.Proofs.Ytceohaeebdhmjaa
open Go Go.RowKit Go.Lib
theorem leastTo_geI {D : Nat → Int} {c p b : Nat} {x : Int} (hx : x ≤ 9223372036854775807) : ∀ {k : Nat}, (∀ j, j < k → labF c j p = (b : Int) → x ≤ D j) → x ≤ leastTo D c k p b
  | 0, _ => hx
  | k + 1, h => by
    have ih := leastTo_geI (c := c) (p := p) (b := b) hx (k := k) fun j hj => h j (by omega)
    unfold leastTo
    by_cases e : labF c k p = (b : Int)
    · rw [if_pos e]
      have := h k (by omega) e
      omega
    · rw [if_neg e]; exact ih
theorem far_level {g r v l : Int} (hg : 1 ≤ g) (hr : -g < r ∧ r < g) (h : 2 ≤ v - l ∨ v - l ≤ -2) : g + 1 ≤ ((g * v + r - g * l).natAbs : Int) := by
  have e : g * v - g * l = g * (v - l) := (Int.mul_sub g v l).symm
  rcases h with h | h
  · have := Int.mul_le_mul_of_nonneg_left h (show 0 ≤ g by omega)
    omega
  · have := Int.mul_le_mul_of_nonneg_left h (show 0 ≤ g by omega)
    omega
theorem sign_hard {g r : Int} {c : Nat} {F : Nat → Int} (hg : 1 ≤ g ∧ g ≤ 1000000) (h1 : 1 ≤ c) (h3 : c ≤ 3) (hF : ∀ j, j < c → IsBit (F j)) (hr : -g < r ∧ r < g) {i : Nat} (hi : i < c) :
    hardP (g * lvl c F + r) g c i = F i ∧ (F i = 0 → 0 < softP (g * lvl c F + r) g c i) ∧ (F i = 1 → softP (g * lvl c F + r) g c i < 0) := by
  obtain ⟨j0, hj0, hlab⟩ := lab_ex h1 h3 hF
  have hl0 : lvl c (labF c j0) = lvl c F := lvl_same h1 h3 hlab
  have hl7 := lvl_le h1 h3 hF
  have hgl := gl_le (v := lvl c F) ⟨hg.1, by omega⟩ hl7
  obtain ⟨v, hv⟩ : ∃ z, lvl c F = z := ⟨_, rfl⟩
  rw [hv] at hl0 hgl hl7 ⊢
  have hp : -100000000 ≤ g * v + r ∧ g * v + r ≤ 100000000 := by omega
  have hg2 : 1 ≤ g ∧ g ≤ 10000000 := by omega
  have d0 : distF (g * v + r) g c j0 ≤ g - 1 ∧ 0 ≤ distF (g * v + r) g c j0 := by unfold distF; rw [hl0]; omega
  have far : ∀ j, j < 2 ^ c → j ≠ j0 → g + 1 ≤ distF (g * v + r) g c j := fun j hj hne => by
    have hne2 : lvl c (labF c j) ≠ v := fun e => hne (one_lev h1 h3 hj hj0 (e.trans hl0.symm))
    obtain ⟨s, -, es⟩ := lev_hit h1 h3 hj
    obtain ⟨t, -, et⟩ := lev_hit h1 h3 hj0
    rw [hl0] at et
    unfold distF
    exact far_level hg.1 hr (by omega)
  obtain ⟨k1, -, k3⟩ := hard_level hp hg2 h1 h3
  have hJ : hardJ (g * v + r) g c = j0 := by
    by_cases e : hardJ (g * v + r) g c = j0
    · exact e
    · have a := far _ k1 e
      have b := k3 j0 hj0
      omega
  have hlo : ∀ b, 0 ≤ leastTo (distF (g * v + r) g c) c (2 ^ c) i b := fun b => (leastTo_low fun j => (distF_le (j := j) hp hg2 h1 h3).1).1
  have near : ∀ b : Nat, F i = (b : Int) → leastTo (distF (g * v + r) g c) c (2 ^ c) i b ≤ g - 1 := fun b e => Int.le_trans (leastTo_le hj0 ((hlab i hi).trans e)) d0.1
  have away : ∀ b : Nat, F i ≠ (b : Int) → g + 1 ≤ leastTo (distF (g * v + r) g c) c (2 ^ c) i b := fun b e => leastTo_geI (by omega) fun j hj ej => far j hj (fun z => e (by rw [← ej, z]; exact (hlab i hi).symm))
  refine ⟨by show labF c (hardJ (g * v + r) g c) i = F i; rw [hJ]; exact hlab i hi, fun e => ?_, fun e => ?_⟩
  · have a := near 0 e
    have b := away 1 (by rw [e]; decide)
    have l0 := hlo 0
    unfold softP
    have := (sq_lt l0 (show 0 ≤ leastTo (distF (g * v + r) g c) c (2 ^ c) i 1 by omega)).2 (by omega)
    omega
  · have a := near 1 e
    have b := away 0 (by rw [e]; decide)
    have l1 := hlo 1
    unfold softP
    have := (sq_lt l1 (show 0 ≤ leastTo (distF (g * v + r) g c) c (2 ^ c) i 0 by omega)).2 (by omega)
    omega
/-- Symbols at a gain with errors that are less than it. -/
def NearTo (g : Int) (c C : Nat) (F : Nat → Int) (R : Nat → Gau) : Prop := ∀ j, j < C → ∃ a b : Int, (-g < a ∧ a < g) ∧ (-g < b ∧ b < g) ∧ R j = ⟨g * (pntF c F (j * (2 * c))).re + a, g * (pntF c F (j * (2 * c))).im + b⟩
theorem sign_bop {g : Int} {c C : Nat} {F : Nat → Int} {R : Nat → Gau} (hg : 1 ≤ g ∧ g ≤ 1000000) (h1 : 1 ≤ c) (h3 : c ≤ 3) (hF : ∀ q, q < C * (2 * c) → IsBit (F q)) (hR : NearTo g c C F R) {q : Nat} (hq : q < C * (2 * c)) :
    bopF c (fun p => hardP p g c) R q = F q ∧ (F q = 0 → 0 < bopF c (fun p => softP p g c) R q) ∧ (F q = 1 → bopF c (fun p => softP p g c) R q < 0) := by
  have hp : 0 < 2 * c := by omega
  have hj : q / (2 * c) < C := Nat.div_lt_of_lt_mul (by rw [Nat.mul_comm]; exact hq)
  have hr : q % (2 * c) < 2 * c := Nat.mod_lt _ hp
  have hqe : q / (2 * c) * (2 * c) + q % (2 * c) = q := by rw [Nat.mul_comm]; exact Nat.div_add_mod q (2 * c)
  obtain ⟨a, b, ha, hb, e⟩ := hR _ hj
  unfold bopF
  rw [e]
  obtain ⟨j, ej⟩ : ∃ z, q / (2 * c) = z := ⟨_, rfl⟩
  obtain ⟨r, er⟩ : ∃ z, q % (2 * c) = z := ⟨_, rfl⟩
  rw [ej] at hj hqe ⊢
  rw [er] at hr hqe ⊢
  have hb2 : (j + 1) * (2 * c) ≤ C * (2 * c) := Nat.mul_le_mul_right _ hj
  rw [Nat.add_mul, Nat.one_mul] at hb2
  obtain h | h : r % 2 = 0 ∨ r % 2 = 1 := by omega
  · rw [h]
    have key := sign_hard (F := fun z => F (j * (2 * c) + 2 * z)) hg h1 h3 (fun z hz => hF _ (by omega)) ha (i := r / 2) (by omega)
    have eq : j * (2 * c) + 2 * (r / 2) = q := by omega
    simp only [eq] at key
    exact key
  · rw [h]
    have key := sign_hard (F := fun z => F (j * (2 * c) + (2 * z + 1))) hg h1 h3 (fun z hz => hF _ (by omega)) hb (i := r / 2) (by omega)
    have eq : j * (2 * c) + (2 * (r / 2) + 1) = q := by omega
    simp only [eq] at key
    exact key
theorem pnt_le {c : Nat} {F : Nat → Int} {i : Nat} (h1 : 1 ≤ c) (h3 : c ≤ 3) (hF : ∀ r, r < 2 * c → IsBit (F (i + r))) : (-7 ≤ (pntF c F i).re ∧ (pntF c F i).re ≤ 7) ∧ -7 ≤ (pntF c F i).im ∧ (pntF c F i).im ≤ 7 :=
  ⟨lvl_le h1 h3 fun q hq => hF (2 * q) (by omega), lvl_le h1 h3 fun q hq => hF (2 * q + 1) (by omega)⟩
theorem grE_in {Z : Nat → Int} {M : Int} (h0 : 0 ≤ M) : ∀ {k : Nat}, (∀ j, j < k → 0 ≤ Z j ∧ Z j ≤ M) → 0 ≤ (grE Z 0 k).1 ∧ (grE Z 0 k).1 ≤ M
  | 0, _ => ⟨Int.le_refl _, h0⟩
  | k + 1, h => by
    have ih := grE_in h0 (k := k) fun j hj => h j (by omega)
    unfold grE
    split
    · exact h k (by omega)
    · exact ih
end Go.Proofs.Ytceohaeebdhmjaa
/- GreatestError of the reference. -/
namespace Go.Proofs.Ytceohaeebdhmjaa
open Go Go.RowKit Go.Lib
theorem gausC {w : World} {lo b o n : Nat} {F : Nat → Gau} (h : GausAt w lo (some ⟨b, o, none⟩) n F) {j : Nat} (hj : j < n) : w.cell? ⟨b, o + j * 2, none⟩ = some (.int .i64 (F j).re) ∧ w.cell? ⟨b, o + j * 2 + 1, none⟩ = some (.int .i64 (F j).im) ∧ b < w.heap.size := by
  obtain ⟨b', o', e, -, h1, h2, h3⟩ := h j hj
  injection e with e
  injection e with e1 e2
  subst e1
  subst e2
  exact ⟨h2, h3, h1⟩
set_option maxHeartbeats 8000000 in
set_option maxRecDepth 100000 in
theorem GreatestErrorR_any (k gn : Int) (A : Option Addr) (n d : Nat) (F : Nat → Gau) (A2 : Option Addr) (m d2 : Nat) (G : Nat → Gau) (w : World) (hI : GausAt w 0 A n F) (hJ : GausAt w 0 A2 m G) (hE : recvE k gn n F = 0) (hE2 : symsE m G = 0) :
    Calls Try.prog 44 #[.agg #[.int .i64 k, .int .i64 gn, .slice A n d], .slice A2 m d2] w fun e w' => e = .returned (.tuple #[.int .i64 (greT gn n F m G).1, .int .i64 (greT gn n F m G).2.1, .int .i64 (greT gn n F m G).2.2]) ∧ Below w.heap.size w w' := by
  obtain ⟨hg, -, hn0, hn, hFW⟩ := recvE_all hE
  obtain ⟨hm0, hm, hGW⟩ := symsE_zero hE2
  have HI := hide hI
  have HJ := hide hJ
  have HFW := hide hFW
  have HUM := hide (fun j => (show gn * (G j).re = (sclF gn G j).re ∧ gn * (G j).im = (sclF gn G j).im from ⟨Int.mul_comm _ _, Int.mul_comm _ _⟩))
  have HUB := hide (fun j (hj : j < m) => (show (-1000000000000000 ≤ (sclF gn G j).re ∧ (sclF gn G j).re ≤ 1000000000000000) ∧ -1000000000000000 ≤ (sclF gn G j).im ∧ (sclF gn G j).im ≤ 1000000000000000 from ⟨mul_size (hGW j hj).re (by omega : -10000000 ≤ gn ∧ gn ≤ 10000000), mul_size (hGW j hj).im (by omega : -10000000 ≤ gn ∧ gn ≤ 10000000)⟩))
  have HGC := hide (fun h : ¬ m = n => (show greT gn n F m G = (0, 0, 13) from if_neg h))
  have HGR := hide (fun h : m = n => (show greT gn n F m G = if insideB 100000000 n (sclF gn G) = true then ((grE (szF gn F G) (-1) n).1, (grE (szF gn F G) (-1) n).2, 0) else (0, 0, 8) from by rw [← grE_same (szF_low gn F G) hn0]; exact if_pos h))
  have HZ1 := hide (fun j => (show szF gn F G j = max (((F j).re - (sclF gn G j).re).natAbs : Int) (((F j).im - (sclF gn G j).im).natAbs : Int) from rfl))
  obtain ⟨T, hT⟩ : ∃ z, greT gn n F m G = z := ⟨_, rfl⟩
  rw [hT] at HGR HGC ⊢
  obtain ⟨U, hU⟩ : ∃ z, sclF gn G = z := ⟨_, rfl⟩
  simp only [hU] at HUM HUB HGR HZ1
  obtain ⟨Z, hZ⟩ : ∃ z, szF gn F G = z := ⟨_, rfl⟩
  simp only [hZ] at HGR HZ1
  clear hI hJ hE hE2 hFW hGW hT hU hZ
  go_enter Try.func44, Try.ntmps44
  go_upto_region 1 with fail
  obtain ⟨w1, hw1⟩ : ∃ q : World, q = w.alloc (.cells #[.int .i64 k, .int .i64 gn, .slice A n d] 58) := ⟨_, rfl⟩
  try rw [← hw1]
  have HX := hide (show Box w1 w.heap.size 58 #[.int .i64 k, .int .i64 gn, .slice A n d] by rw [hw1]; exact Box.made rfl)
  have HB := hide (show Below w.heap.size w w1 by rw [hw1]; (repeat (first | (with_reducible exact Below.refl _ _) | (with_reducible refine Go.below_drewN ?_ _) | (with_reducible refine Below.drew ?_) | (with_reducible refine Below.alloc ?_ (by first | exact Nat.le_refl _ | (simp; done) | (simp; omega) | omega) _) | (with_reducible refine Below.setCell ?_ (by first | exact Nat.le_refl _ | (simp; done) | (simp; omega) | omega) _))))
  clear hw1
  obtain ⟨b2, hb2⟩ : ∃ z, w.heap.size = z := ⟨_, rfl⟩
  simp only [hb2] at HX HB ⊢
  obtain ⟨c0, c1, c2, hlz⟩ := rec_cells HX.out
  by_cases hmn : m = n
  case neg =>
    have hmn2 : (((m : Int) != (n : Int))) = true := by simp; omega
    replace HGC := hide (HGC.out hmn)
    clear HFW HGR HZ1 HUM HUB
    go_wp2_with fail
    go_ret3
    exact ⟨by rw [HGC.out]; rfl, by first | exact hb2 ▸ HB.out | exact HB.out⟩
  subst hmn
  have hmn2 : (((m : Int) != (m : Int))) = false := by simp
  replace HGR := hide (HGR.out rfl)
  have HNO := hide (fun j (hj : j < m) (h : (U j).isIn 100000000 = false) => insideB_no hj h)
  have HYES := hide (fun (h : ∀ j, j < m → (U j).isIn 100000000 = true) => insideB_iff.2 (fun j hj => Gau.isIn_iff.1 (h j hj)))
  have HSZ := hide (fun j W => sizedR_any (U j) 100000000 W (by decide))
  obtain ⟨I, hI⟩ : ∃ z, insideB 100000000 m U = z := ⟨_, rfl⟩
  rw [hI] at HGR
  simp only [hI] at HNO HYES
  clear HGC hI
  go_wp2_with fail
  clear c0 c1 c2 hlz
  go_loopw [7] (fun i wr => ∃ j : Nat, j ≤ m ∧ i = .int .i64 (j : Int) ∧ Hid (∀ q, q < j → (U q).isIn 100000000 = true) ∧ Hid (Box wr b2 58 #[.int .i64 k, .int .i64 gn, .slice A m d]) ∧ Hid (Below b2 w wr)) (fun i _ => m - (Go.RowKit.intOf i).toNat)
  case atStart => exact ⟨0, Nat.zero_le _, rfl, hide (fun q hq => absurd hq (Nat.not_lt_zero q)), HX, HB⟩
  case round =>
    clear HX HB
    obtain ⟨j, hj, rfl, HA, HX, HB⟩ := hrel
    obtain ⟨wA, rfl⟩ : ∃ x : World, x = wr := ⟨_, rfl⟩
    by_cases hlt : j < m
    case pos =>
      have hltz : (j : Int) < (m : Int) := by omega
      have HJc := hide (HJ.out.below (by rw [hb2]; exact HB.out))
      obtain ⟨pb, po, rfl, -, -, -, -⟩ := HJc.out j hlt
      have HPJ := hide (fun W1 (h : GausAt W1 0 (some ⟨pb, po, none⟩) m G) => gausC h hlt)
      obtain ⟨um1, um2⟩ := HUM.out j
      obtain ⟨ub1, ub2⟩ := HUB.out j hlt
      have HSj := hide (HSZ.out j)
      have HNOj := hide (HNO.out j hlt)
      have HA2 := hide (fun (hv : (U j).isIn 100000000 = true) => (show ∀ q, q < j + 1 → (U q).isIn 100000000 = true from fun q hq => by
        by_cases e : q = j
        · rw [e]; exact hv
        · exact HA.out q (by omega)))
      obtain ⟨s, hs⟩ : ∃ z, (U j).isIn 100000000 = z := ⟨_, rfl⟩
      rw [hs] at HSj HNOj HA2
      obtain ⟨y, hy⟩ : ∃ z, G j = z := ⟨_, rfl⟩
      rw [hy] at um1 um2 HPJ
      obtain ⟨u, hu⟩ : ∃ z, U j = z := ⟨_, rfl⟩
      rw [hu] at um1 um2 ub1 ub2 HSj
      have q1 : IntKind.i64.wrap (gn * y.re) = u.re := by rw [um1]; exact IntWalk.i64_in _ (by omega)
      have q2 : IntKind.i64.wrap (gn * y.im) = u.im := by rw [um2]; exact IntWalk.i64_in _ (by omega)
      clear hs hy hu um1 um2 ub1 ub2 HUM HUB HSZ HNO HYES HA HZ1 HFW
      obtain ⟨c0, c1, c2, hlz⟩ := rec_cells HX.out
      go_upto_region 6 with fail
      clear c0 c1 c2 hlz
      have hlA := HX.out.lt
      refine wp_region_held_drew (S := fun w' => w'.cell? ⟨pb, po + j * 2, none⟩ = some (.int .i64 y.re) ∧ w'.cell? ⟨pb, po + j * 2 + 1, none⟩ = some (.int .i64 y.im) ∧ w'.cell? ⟨b2, 1, none⟩ = some (.int .i64 gn)) (by kernel_rfl) ⟨(HPJ.out _ HJc.out).1, (HPJ.out _ HJc.out).2.1, HX.out.at_ 1⟩ (fun hHeld => ?_)
      obtain ⟨w_1, hw_1⟩ : ∃ q : World, q = wA.drew := ⟨_, rfl⟩
      rw [← hw_1] at hHeld ⊢
      have hc_1 : Below wA.heap.size wA w_1 := by rw [hw_1]; exact (Below.refl _ _).drew
      clear hw_1
      replace HJc := hide (HJc.out.below hc_1)
      replace HX := hide (HX.out.below hc_1)
      replace HB := hide (HB.out.trans (hc_1.mono (Nat.le_of_lt hlA)))
      replace hlA := Nat.lt_of_lt_of_le hlA hc_1.size
      clear hc_1
      refine wpAnyH_take (i := 0) (oi := ⟨some 24, _, _, _, _, _⟩) (v := ?_) rfl (by kernel_rfl) (by kernel_rfl) (by kernel_rfl) (fun _ _ _ h => h) (Or.inl ⟨by rfl, ?_⟩) (by assumption) ?_
      rotate_left
      · (intro w' hSw; (try dsimp only at hSw); go_simp <;> (with_reducible rfl))
      try simp only [Act.put, List.setIfInBounds_toArray, List.set_cons_zero, List.set_cons_succ]
      refine wpAnyH_take (i := 1) (oi := ⟨some 25, _, _, _, _, _⟩) (v := ?_) rfl (by kernel_rfl) (by kernel_rfl) (by kernel_rfl) (fun _ _ _ h => h) (Or.inl ⟨by rfl, ?_⟩) (by assumption) ?_
      rotate_left
      · (intro w' hSw; (try dsimp only at hSw); go_simp <;> (with_reducible rfl))
      try simp only [Act.put, List.setIfInBounds_toArray, List.set_cons_zero, List.set_cons_succ]
      refine wpAnyH_take (i := 2) (oi := ⟨some 26, _, _, _, _, _⟩) (v := ?_) rfl (by kernel_rfl) (by kernel_rfl) (by kernel_rfl) (fun _ _ _ h => h) (Or.inl ⟨by rfl, ?_⟩) (by assumption) ?_
      rotate_left
      · (intro w' hSw; (try dsimp only at hSw); go_simp <;> (with_reducible rfl))
      try simp only [Act.put, List.setIfInBounds_toArray, List.set_cons_zero, List.set_cons_succ]
      refine wpAnyH_take (i := 3) (oi := ⟨some 27, _, _, _, _, _⟩) (v := ?_) rfl (by kernel_rfl) (by kernel_rfl) (by kernel_rfl) (fun _ _ _ h => h) (Or.inl ⟨by rfl, ?_⟩) (by assumption) ?_
      rotate_left
      · (intro w' hSw; (try dsimp only at hSw); go_simp <;> (with_reducible rfl))
      try simp only [Act.put, List.setIfInBounds_toArray, List.set_cons_zero, List.set_cons_succ]
      refine wpAnyH_take (i := 4) (oi := ⟨some 28, _, _, _, _, _⟩) (v := ?_) rfl (by kernel_rfl) (by kernel_rfl) (by kernel_rfl) (fun _ _ _ h => h) (Or.inl ⟨by rfl, ?_⟩) (by assumption) ?_
      rotate_left
      · (intro w' hSw; (try dsimp only at hSw); go_simp <;> (with_reducible rfl))
      try simp only [Act.put, List.setIfInBounds_toArray, List.set_cons_zero, List.set_cons_succ]
      refine wpAnyH_take (i := 5) (oi := ⟨some 29, _, _, _, _, _⟩) (v := ?_) rfl (by kernel_rfl) (by kernel_rfl) (by kernel_rfl) (fun _ _ _ h => h) (Or.inl ⟨by rfl, ?_⟩) (by assumption) ?_
      rotate_left
      · (intro w' hSw; (try dsimp only at hSw); go_simp <;> (with_reducible rfl))
      try simp only [Act.put, List.setIfInBounds_toArray, List.set_cons_zero, List.set_cons_succ]
      refine wpAnyH_take (i := 6) (oi := ⟨some 30, _, _, _, _, _⟩) (v := ?_) rfl (by kernel_rfl) (by kernel_rfl) (by kernel_rfl) (fun _ _ _ h => h) (Or.inl ⟨by rfl, ?_⟩) (by assumption) ?_
      rotate_left
      · (intro w' hSw; (try dsimp only at hSw); go_simp <;> (with_reducible rfl))
      try simp only [Act.put, List.setIfInBounds_toArray, List.set_cons_zero, List.set_cons_succ]
      refine wpAnyH_take (i := 7) (oi := ⟨some 31, _, _, _, _, _⟩) (v := ?_) rfl (by kernel_rfl) (by kernel_rfl) (by kernel_rfl) (fun _ _ _ h => h) (Or.inl ⟨by rfl, ?_⟩) (by assumption) ?_
      rotate_left
      · (intro w' hSw; (try dsimp only at hSw); go_simp <;> (with_reducible rfl))
      try simp only [Act.put, List.setIfInBounds_toArray, List.set_cons_zero, List.set_cons_succ]
      refine wpAnyH_take (i := 8) (oi := ⟨some 32, _, _, _, _, _⟩) (v := ?_) rfl (by kernel_rfl) (by kernel_rfl) (by kernel_rfl) (fun _ _ _ h => h) (Or.inl ⟨by rfl, ?_⟩) (by assumption) ?_
      rotate_left
      · (intro w' hSw; (try dsimp only at hSw); go_simp <;> (with_reducible rfl))
      try simp only [Act.put, List.setIfInBounds_toArray, List.set_cons_zero, List.set_cons_succ]
      refine wpAnyH_take (i := 9) (oi := ⟨some 33, _, _, _, _, _⟩) (v := ?_) rfl (by kernel_rfl) (by kernel_rfl) (by kernel_rfl) (fun _ _ _ h => h) (Or.inl ⟨by rfl, ?_⟩) (by assumption) ?_
      rotate_left
      · (intro w' hSw; (try dsimp only at hSw); go_simp <;> (with_reducible rfl))
      try simp only [Act.put, List.setIfInBounds_toArray, List.set_cons_zero, List.set_cons_succ]
      refine wpAnyH_take (i := 10) (oi := ⟨some 34, _, _, _, _, _⟩) (v := ?_) rfl (by kernel_rfl) (by kernel_rfl) (by kernel_rfl) (fun _ _ _ h => h) (Or.inl ⟨by rfl, ?_⟩) (by assumption) ?_
      rotate_left
      · (intro w' hSw; (try dsimp only at hSw); go_simp <;> (with_reducible rfl))
      try simp only [Act.put, List.setIfInBounds_toArray, List.set_cons_zero, List.set_cons_succ]
      refine wpAnyH_take (i := 11) (oi := ⟨some 35, _, _, _, _, _⟩) (v := ?_) rfl (by kernel_rfl) (by kernel_rfl) (by kernel_rfl) (fun _ _ _ h => h) (Or.inl ⟨by rfl, ?_⟩) (by assumption) ?_
      rotate_left
      · (intro w' hSw; (try dsimp only at hSw); go_simp <;> (with_reducible rfl))
      try simp only [Act.put, List.setIfInBounds_toArray, List.set_cons_zero, List.set_cons_succ]
      refine wpAnyH_take (i := 12) (oi := ⟨some 36, _, _, _, _, _⟩) (v := ?_) rfl (by kernel_rfl) (by kernel_rfl) (by kernel_rfl) (fun _ _ _ h => h) (Or.inl ⟨by rfl, ?_⟩) (by assumption) ?_
      rotate_left
      · (intro w' hSw; (try dsimp only at hSw); go_simp <;> (with_reducible rfl))
      try simp only [Act.put, List.setIfInBounds_toArray, List.set_cons_zero, List.set_cons_succ]
      refine wpAnyH_take (i := 13) (oi := ⟨some 37, _, _, _, _, _⟩) (v := ?_) rfl (by kernel_rfl) (by kernel_rfl) (by kernel_rfl) (fun _ _ _ h => h) (Or.inl ⟨by rfl, ?_⟩) (by assumption) ?_
      rotate_left
      · (intro w' hSw; (try dsimp only at hSw); go_simp <;> (with_reducible rfl))
      try simp only [Act.put, List.setIfInBounds_toArray, List.set_cons_zero, List.set_cons_succ]
      refine wpAnyH_take (i := 14) (oi := ⟨some 38, _, _, _, _, _⟩) (v := ?_) rfl (by kernel_rfl) (by kernel_rfl) (by kernel_rfl) (fun _ _ _ h => h) (Or.inl ⟨by rfl, ?_⟩) (by assumption) ?_
      rotate_left
      · (intro w' hSw; (try dsimp only at hSw); go_simp <;> (with_reducible rfl))
      try simp only [Act.put, List.setIfInBounds_toArray, List.set_cons_zero, List.set_cons_succ]
      refine wpAnyH_take (i := 15) (oi := ⟨some 39, _, _, _, _, _⟩) (v := ?_) rfl (by kernel_rfl) (by kernel_rfl) (by kernel_rfl) (fun _ _ _ h => h) (Or.inl ⟨by rfl, ?_⟩) (by assumption) ?_
      rotate_left
      · (intro w' hSw; (try dsimp only at hSw); go_simp <;> (with_reducible rfl))
      try simp only [Act.put, List.setIfInBounds_toArray, List.set_cons_zero, List.set_cons_succ]
      refine wpAnyH_take (i := 16) (oi := ⟨some 40, _, _, _, _, _⟩) (v := ?_) rfl (by kernel_rfl) (by kernel_rfl) (by kernel_rfl) (fun _ _ _ h => h) (Or.inl ⟨by rfl, ?_⟩) (by assumption) ?_
      rotate_left
      · (intro w' hSw; (try dsimp only at hSw); go_simp <;> (with_reducible rfl))
      try simp only [Act.put, List.setIfInBounds_toArray, List.set_cons_zero, List.set_cons_succ]
      refine wpAnyH_ready (rs := [17]) (by kernel_rfl) (by simp) ?_
      refine AllReadyH.cons (o := ⟨some 41, _, _, _, _, _⟩) rfl (fun K' hK => ?_) AllReadyH.nil
      go_simp
      go_at_call 60
      refine (HSj.out _).mono ?_
      rintro e_ w_2 ⟨rfl, hb_2⟩
      replace HJc := hide (HJc.out.below hb_2)
      replace HX := hide (HX.out.below hb_2)
      replace HB := hide (HB.out.trans (hb_2.mono (Nat.le_of_lt hlA)))
      replace hlA := Nat.lt_of_lt_of_le hlA hb_2.size
      clear hb_2
      go_wp2_with fail
      refine hK.out _ _ ⟨(HPJ.out _ HJc.out).1, (HPJ.out _ HJc.out).2.1, HX.out.at_ 1⟩ (fun hHeld => ?_)
      clear hK K'
      try simp only [Act.put, List.setIfInBounds_toArray, List.set_cons_zero, List.set_cons_succ]
      refine wpAnyH_take (i := 18) (oi := ⟨some 42, _, _, _, _, _⟩) (v := ?_) rfl (by kernel_rfl) (by kernel_rfl) (by kernel_rfl) (fun _ _ _ h => h) (Or.inl ⟨by rfl, ?_⟩) (by assumption) ?_
      rotate_left
      · (intro w' hSw; (try dsimp only at hSw); go_simp <;> (with_reducible rfl))
      try simp only [Act.put, List.setIfInBounds_toArray, List.set_cons_zero, List.set_cons_succ]
      refine wpAnyH_done (by kernel_rfl) ?_ _
      clear hHeld HSj HPJ
      cases s
      · skip
        replace HGR := hide (show T = (0, 0, 8) from HGR.out.trans (if_neg (by rw [HNOj.out rfl]; decide)))
        clear HNOj HA2
        go_wp2_with fail
        go_ret3
        exact ⟨by rw [HGR.out]; rfl, by first | exact hb2 ▸ HB.out | exact HB.out⟩
      · skip
        replace HA2 := hide (HA2.out rfl)
        clear HNOj
        go_wp2_with fail
        go_roundw
        case rel => exact ⟨j + 1, by omega, by go_num, HA2, HX, HB⟩
        case measure => simp [Go.RowKit.intOf]; omega
    obtain rfl : m = j := by omega
    have hltz : ¬ (m : Int) < (m : Int) := by omega
    replace HGR := hide (show T = ((grE Z (-1) m).1, (grE Z (-1) m).2, 0) from HGR.out.trans (if_pos (HYES.out HA.out)))
    have HBD := hide (fun j (hj : j < m) => Gau.isIn_iff.1 (HA.out j hj))
    clear HNO HYES HA HSZ HUB
    have HS := hide (fun j => (show grE Z (-1) (j + 1) = if (grE Z (-1) j).1 < Z j then (Z j, (j : Int)) else grE Z (-1) j from rfl))
    have HS0 := hide (show grE Z (-1) 0 = (-1, 0) from rfl)
    obtain ⟨H, hH⟩ : ∃ z, grE Z (-1) = z := ⟨_, rfl⟩
    simp only [hH] at HS HS0 HGR
    clear hH
    obtain ⟨c0, c1, c2, hlz⟩ := rec_cells HX.out
    go_wp2_with fail
    clear c0 c1 c2 hlz
    go_loopw [8, 9, 10] (fun a f i wr => ∃ j : Nat, j ≤ m ∧ i = .int .i64 (j : Int) ∧ a = .int .i64 (H j).1 ∧ f = .int .i64 (H j).2 ∧ Hid (Box wr b2 58 #[.int .i64 k, .int .i64 gn, .slice A m d]) ∧ Hid (Below b2 w wr)) (fun _ _ i _ => m - (Go.RowKit.intOf i).toNat)
    case atStart => exact ⟨0, Nat.zero_le _, rfl, by rw [HS0.out], by rw [HS0.out], HX, HB⟩
    case round =>
      clear HX HB HS0
      obtain ⟨j, hj, rfl, rfl, rfl, HX, HB⟩ := hrel
      obtain ⟨wA, rfl⟩ : ∃ x : World, x = wr := ⟨_, rfl⟩
      by_cases hlt : j < m
      case neg =>
        obtain rfl : m = j := by omega
        have hltz : ¬ (m : Int) < (m : Int) := by omega
        clear HS HBD HZ1 HI HJ HUM
        go_wp2_with fail
        go_ret3
        exact ⟨by rw [HGR.out]; rfl, by first | exact hb2 ▸ HB.out | exact HB.out⟩
      have hltz : (j : Int) < (m : Int) := by omega
      have hz := HZ1.out j
      have hfw := HFW.out j hlt
      have huw := HBD.out j hlt
      have hs := HS.out j
      obtain ⟨um1, um2⟩ := HUM.out j
      have HJc := hide (HJ.out.below (by rw [hb2]; exact HB.out))
      obtain ⟨pb, po, rfl, -, -, -, -⟩ := HJc.out j hlt
      have HPJ := hide (fun W1 (h : GausAt W1 0 (some ⟨pb, po, none⟩) m G) => gausC h hlt)
      have HIc := hide (HI.out.below (by rw [hb2]; exact HB.out))
      obtain ⟨sb, so, rfl, -, -, -, -⟩ := HIc.out j hlt
      have HPI := hide (fun W1 (h : GausAt W1 0 (some ⟨sb, so, none⟩) m F) => gausC h hlt)
      obtain ⟨x, hx⟩ : ∃ z, F j = z := ⟨_, rfl⟩
      obtain ⟨u, hu⟩ : ∃ z, U j = z := ⟨_, rfl⟩
      obtain ⟨y, hy⟩ : ∃ z, G j = z := ⟨_, rfl⟩
      rw [hx] at hz hfw HPI
      rw [hu] at hz huw um1 um2
      rw [hy] at um1 um2 HPJ
      obtain ⟨⟨a, f⟩, haf⟩ : ∃ z, H j = z := ⟨_, rfl⟩
      simp only [haf] at hs ⊢
      obtain ⟨t, ht⟩ : ∃ z, Z j = z := ⟨_, rfl⟩
      rw [ht] at hz hs
      clear hx hy haf hu ht
      have b1 := hfw.re
      have b2_ := hfw.im
      have b3 := huw.re
      have b4 := huw.im
      have HZA := hide (fun W1 => sizeB_any (x.re - u.re) W1 (by omega))
      have HZB := hide (fun W1 => sizeB_any (x.im - u.im) W1 (by omega))
      have q1 : IntKind.i64.wrap (gn * y.re) = u.re := by rw [um1]; exact IntWalk.i64_in _ (by omega)
      have q2 : IntKind.i64.wrap (gn * y.im) = u.im := by rw [um2]; exact IntWalk.i64_in _ (by omega)
      have q3 : IntKind.i64.wrap (x.re - u.re) = x.re - u.re := IntWalk.i64_in _ (by omega)
      have q4 : IntKind.i64.wrap (x.im - u.im) = x.im - u.im := IntWalk.i64_in _ (by omega)
      obtain ⟨zr, hzr⟩ : ∃ z, ((x.re - u.re).natAbs : Int) = z := ⟨_, rfl⟩
      obtain ⟨zi, hzi⟩ : ∃ z, ((x.im - u.im).natAbs : Int) = z := ⟨_, rfl⟩
      rw [hzr] at HZA hz
      rw [hzi] at HZB hz
      clear hfw huw hzr hzi b1 b2_ b3 b4 um1 um2 HZ1 HBD HS HUM HFW
      go_upto_region 12 with fail
      have hlA := HX.out.lt
      by_cases hzz : zr < zi
      case pos =>
        obtain rfl : t = zi := by rw [hz]; omega
        clear hz
        refine wp_region_held_drew (S := fun w' => w'.cell? ⟨pb, po + j * 2, none⟩ = some (.int .i64 y.re) ∧ w'.cell? ⟨pb, po + j * 2 + 1, none⟩ = some (.int .i64 y.im) ∧ w'.cell? ⟨sb, so + j * 2, none⟩ = some (.int .i64 x.re) ∧ w'.cell? ⟨sb, so + j * 2 + 1, none⟩ = some (.int .i64 x.im) ∧ w'.cell? ⟨b2, 1, none⟩ = some (.int .i64 gn) ∧ w'.cell? ⟨b2, 2, none⟩ = some (.slice (some ⟨sb, so, none⟩) m d)) (by kernel_rfl) ⟨(HPJ.out _ HJc.out).1, (HPJ.out _ HJc.out).2.1, (HPI.out _ HIc.out).1, (HPI.out _ HIc.out).2.1, HX.out.at_ 1, HX.out.at_ 2⟩ (fun hHeld => ?_)
        obtain ⟨w_3, hw_3⟩ : ∃ q : World, q = wA.drew := ⟨_, rfl⟩
        rw [← hw_3] at hHeld ⊢
        have hc_3 : Below wA.heap.size wA w_3 := by rw [hw_3]; exact (Below.refl _ _).drew
        clear hw_3
        replace HJc := hide (HJc.out.below hc_3)
        replace HIc := hide (HIc.out.below hc_3)
        replace HX := hide (HX.out.below hc_3)
        replace HB := hide (HB.out.trans (hc_3.mono (Nat.le_of_lt hlA)))
        replace hlA := Nat.lt_of_lt_of_le hlA hc_3.size
        clear hc_3
        refine wpAnyH_take (i := 0) (oi := ⟨some 49, _, _, _, _, _⟩) (v := ?_) rfl (by kernel_rfl) (by kernel_rfl) (by kernel_rfl) (fun _ _ _ h => h) (Or.inl ⟨by rfl, ?_⟩) (by assumption) ?_
        rotate_left
        · (intro w' hSw; (try dsimp only at hSw); go_simp <;> (with_reducible rfl))
        try simp only [Act.put, List.setIfInBounds_toArray, List.set_cons_zero, List.set_cons_succ]
        refine wpAnyH_take (i := 1) (oi := ⟨some 50, _, _, _, _, _⟩) (v := ?_) rfl (by kernel_rfl) (by kernel_rfl) (by kernel_rfl) (fun _ _ _ h => h) (Or.inl ⟨by rfl, ?_⟩) (by assumption) ?_
        rotate_left
        · (intro w' hSw; (try dsimp only at hSw); go_simp <;> (with_reducible rfl))
        try simp only [Act.put, List.setIfInBounds_toArray, List.set_cons_zero, List.set_cons_succ]
        refine wpAnyH_take (i := 2) (oi := ⟨some 51, _, _, _, _, _⟩) (v := ?_) rfl (by kernel_rfl) (by kernel_rfl) (by kernel_rfl) (fun _ _ _ h => h) (Or.inl ⟨by rfl, ?_⟩) (by assumption) ?_
        rotate_left
        · (intro w' hSw; (try dsimp only at hSw); go_simp <;> (with_reducible rfl))
        try simp only [Act.put, List.setIfInBounds_toArray, List.set_cons_zero, List.set_cons_succ]
        refine wpAnyH_take (i := 3) (oi := ⟨some 52, _, _, _, _, _⟩) (v := ?_) rfl (by kernel_rfl) (by kernel_rfl) (by kernel_rfl) (fun _ _ _ h => h) (Or.inl ⟨by rfl, ?_⟩) (by assumption) ?_
        rotate_left
        · (intro w' hSw; (try dsimp only at hSw); go_simp <;> (with_reducible rfl))
        try simp only [Act.put, List.setIfInBounds_toArray, List.set_cons_zero, List.set_cons_succ]
        refine wpAnyH_take (i := 4) (oi := ⟨some 53, _, _, _, _, _⟩) (v := ?_) rfl (by kernel_rfl) (by kernel_rfl) (by kernel_rfl) (fun _ _ _ h => h) (Or.inl ⟨by rfl, ?_⟩) (by assumption) ?_
        rotate_left
        · (intro w' hSw; (try dsimp only at hSw); go_simp <;> (with_reducible rfl))
        try simp only [Act.put, List.setIfInBounds_toArray, List.set_cons_zero, List.set_cons_succ]
        refine wpAnyH_take (i := 5) (oi := ⟨some 54, _, _, _, _, _⟩) (v := ?_) rfl (by kernel_rfl) (by kernel_rfl) (by kernel_rfl) (fun _ _ _ h => h) (Or.inl ⟨by rfl, ?_⟩) (by assumption) ?_
        rotate_left
        · (intro w' hSw; (try dsimp only at hSw); go_simp <;> (with_reducible rfl))
        try simp only [Act.put, List.setIfInBounds_toArray, List.set_cons_zero, List.set_cons_succ]
        refine wpAnyH_take (i := 6) (oi := ⟨some 55, _, _, _, _, _⟩) (v := ?_) rfl (by kernel_rfl) (by kernel_rfl) (by kernel_rfl) (fun _ _ _ h => h) (Or.inl ⟨by rfl, ?_⟩) (by assumption) ?_
        rotate_left
        · (intro w' hSw; (try dsimp only at hSw); go_simp <;> (with_reducible rfl))
        try simp only [Act.put, List.setIfInBounds_toArray, List.set_cons_zero, List.set_cons_succ]
        refine wpAnyH_take (i := 7) (oi := ⟨some 56, _, _, _, _, _⟩) (v := ?_) rfl (by kernel_rfl) (by kernel_rfl) (by kernel_rfl) (fun _ _ _ h => h) (Or.inl ⟨by rfl, ?_⟩) (by assumption) ?_
        rotate_left
        · (intro w' hSw; (try dsimp only at hSw); go_simp <;> (with_reducible rfl))
        try simp only [Act.put, List.setIfInBounds_toArray, List.set_cons_zero, List.set_cons_succ]
        refine wpAnyH_take (i := 8) (oi := ⟨some 57, _, _, _, _, _⟩) (v := ?_) rfl (by kernel_rfl) (by kernel_rfl) (by kernel_rfl) (fun _ _ _ h => h) (Or.inl ⟨by rfl, ?_⟩) (by assumption) ?_
        rotate_left
        · (intro w' hSw; (try dsimp only at hSw); go_simp <;> (with_reducible rfl))
        try simp only [Act.put, List.setIfInBounds_toArray, List.set_cons_zero, List.set_cons_succ]
        refine wpAnyH_take (i := 9) (oi := ⟨some 58, _, _, _, _, _⟩) (v := ?_) rfl (by kernel_rfl) (by kernel_rfl) (by kernel_rfl) (fun _ _ _ h => h) (Or.inl ⟨by rfl, ?_⟩) (by assumption) ?_
        rotate_left
        · (intro w' hSw; (try dsimp only at hSw); go_simp <;> (with_reducible rfl))
        try simp only [Act.put, List.setIfInBounds_toArray, List.set_cons_zero, List.set_cons_succ]
        refine wpAnyH_take (i := 10) (oi := ⟨some 59, _, _, _, _, _⟩) (v := ?_) rfl (by kernel_rfl) (by kernel_rfl) (by kernel_rfl) (fun _ _ _ h => h) (Or.inl ⟨by rfl, ?_⟩) (by assumption) ?_
        rotate_left
        · (intro w' hSw; (try dsimp only at hSw); go_simp <;> (with_reducible rfl))
        try simp only [Act.put, List.setIfInBounds_toArray, List.set_cons_zero, List.set_cons_succ]
        refine wpAnyH_take (i := 11) (oi := ⟨some 60, _, _, _, _, _⟩) (v := ?_) rfl (by kernel_rfl) (by kernel_rfl) (by kernel_rfl) (fun _ _ _ h => h) (Or.inl ⟨by rfl, ?_⟩) (by assumption) ?_
        rotate_left
        · (intro w' hSw; (try dsimp only at hSw); go_simp <;> (with_reducible rfl))
        try simp only [Act.put, List.setIfInBounds_toArray, List.set_cons_zero, List.set_cons_succ]
        refine wpAnyH_take (i := 12) (oi := ⟨some 61, _, _, _, _, _⟩) (v := ?_) rfl (by kernel_rfl) (by kernel_rfl) (by kernel_rfl) (fun _ _ _ h => h) (Or.inl ⟨by rfl, ?_⟩) (by assumption) ?_
        rotate_left
        · (intro w' hSw; (try dsimp only at hSw); go_simp <;> (with_reducible rfl))
        try simp only [Act.put, List.setIfInBounds_toArray, List.set_cons_zero, List.set_cons_succ]
        refine wpAnyH_take (i := 13) (oi := ⟨some 62, _, _, _, _, _⟩) (v := ?_) rfl (by kernel_rfl) (by kernel_rfl) (by kernel_rfl) (fun _ _ _ h => h) (Or.inl ⟨by rfl, ?_⟩) (by assumption) ?_
        rotate_left
        · (intro w' hSw; (try dsimp only at hSw); go_simp <;> (with_reducible rfl))
        try simp only [Act.put, List.setIfInBounds_toArray, List.set_cons_zero, List.set_cons_succ]
        refine wpAnyH_take (i := 14) (oi := ⟨some 63, _, _, _, _, _⟩) (v := ?_) rfl (by kernel_rfl) (by kernel_rfl) (by kernel_rfl) (fun _ _ _ h => h) (Or.inl ⟨by rfl, ?_⟩) (by assumption) ?_
        rotate_left
        · (intro w' hSw; (try dsimp only at hSw); go_simp <;> (with_reducible rfl))
        try simp only [Act.put, List.setIfInBounds_toArray, List.set_cons_zero, List.set_cons_succ]
        refine wpAnyH_take (i := 16) (oi := ⟨some 65, _, _, _, _, _⟩) (v := ?_) rfl (by kernel_rfl) (by kernel_rfl) (by kernel_rfl) (fun _ _ _ h => h) (Or.inl ⟨by rfl, ?_⟩) (by assumption) ?_
        rotate_left
        · (intro w' hSw; (try dsimp only at hSw); go_simp <;> (with_reducible rfl))
        try simp only [Act.put, List.setIfInBounds_toArray, List.set_cons_zero, List.set_cons_succ]
        refine wpAnyH_take (i := 17) (oi := ⟨some 66, _, _, _, _, _⟩) (v := ?_) rfl (by kernel_rfl) (by kernel_rfl) (by kernel_rfl) (fun _ _ _ h => h) (Or.inl ⟨by rfl, ?_⟩) (by assumption) ?_
        rotate_left
        · (intro w' hSw; (try dsimp only at hSw); go_simp <;> (with_reducible rfl))
        try simp only [Act.put, List.setIfInBounds_toArray, List.set_cons_zero, List.set_cons_succ]
        refine wpAnyH_take (i := 18) (oi := ⟨some 67, _, _, _, _, _⟩) (v := ?_) rfl (by kernel_rfl) (by kernel_rfl) (by kernel_rfl) (fun _ _ _ h => h) (Or.inl ⟨by rfl, ?_⟩) (by assumption) ?_
        rotate_left
        · (intro w' hSw; (try dsimp only at hSw); go_simp <;> (with_reducible rfl))
        try simp only [Act.put, List.setIfInBounds_toArray, List.set_cons_zero, List.set_cons_succ]
        refine wpAnyH_take (i := 19) (oi := ⟨some 68, _, _, _, _, _⟩) (v := ?_) rfl (by kernel_rfl) (by kernel_rfl) (by kernel_rfl) (fun _ _ _ h => h) (Or.inl ⟨by rfl, ?_⟩) (by assumption) ?_
        rotate_left
        · (intro w' hSw; (try dsimp only at hSw); go_simp <;> (with_reducible rfl))
        try simp only [Act.put, List.setIfInBounds_toArray, List.set_cons_zero, List.set_cons_succ]
        refine wpAnyH_take (i := 20) (oi := ⟨some 69, _, _, _, _, _⟩) (v := ?_) rfl (by kernel_rfl) (by kernel_rfl) (by kernel_rfl) (fun _ _ _ h => h) (Or.inl ⟨by rfl, ?_⟩) (by assumption) ?_
        rotate_left
        · (intro w' hSw; (try dsimp only at hSw); go_simp <;> (with_reducible rfl))
        try simp only [Act.put, List.setIfInBounds_toArray, List.set_cons_zero, List.set_cons_succ]
        refine wpAnyH_take (i := 21) (oi := ⟨some 70, _, _, _, _, _⟩) (v := ?_) rfl (by kernel_rfl) (by kernel_rfl) (by kernel_rfl) (fun _ _ _ h => h) (Or.inl ⟨by rfl, ?_⟩) (by assumption) ?_
        rotate_left
        · (intro w' hSw; (try dsimp only at hSw); go_simp <;> (with_reducible rfl))
        try simp only [Act.put, List.setIfInBounds_toArray, List.set_cons_zero, List.set_cons_succ]
        refine wpAnyH_take (i := 22) (oi := ⟨some 71, _, _, _, _, _⟩) (v := ?_) rfl (by kernel_rfl) (by kernel_rfl) (by kernel_rfl) (fun _ _ _ h => h) (Or.inl ⟨by rfl, ?_⟩) (by assumption) ?_
        rotate_left
        · (intro w' hSw; (try dsimp only at hSw); go_simp <;> (with_reducible rfl))
        try simp only [Act.put, List.setIfInBounds_toArray, List.set_cons_zero, List.set_cons_succ]
        refine wpAnyH_take (i := 23) (oi := ⟨some 72, _, _, _, _, _⟩) (v := ?_) rfl (by kernel_rfl) (by kernel_rfl) (by kernel_rfl) (fun _ _ _ h => h) (Or.inl ⟨by rfl, ?_⟩) (by assumption) ?_
        rotate_left
        · (intro w' hSw; (try dsimp only at hSw); go_simp <;> (with_reducible rfl))
        try simp only [Act.put, List.setIfInBounds_toArray, List.set_cons_zero, List.set_cons_succ]
        refine wpAnyH_take (i := 24) (oi := ⟨some 73, _, _, _, _, _⟩) (v := ?_) rfl (by kernel_rfl) (by kernel_rfl) (by kernel_rfl) (fun _ _ _ h => h) (Or.inl ⟨by rfl, ?_⟩) (by assumption) ?_
        rotate_left
        · (intro w' hSw; (try dsimp only at hSw); go_simp <;> (with_reducible rfl))
        try simp only [Act.put, List.setIfInBounds_toArray, List.set_cons_zero, List.set_cons_succ]
        refine wpAnyH_take (i := 25) (oi := ⟨some 74, _, _, _, _, _⟩) (v := ?_) rfl (by kernel_rfl) (by kernel_rfl) (by kernel_rfl) (fun _ _ _ h => h) (Or.inl ⟨by rfl, ?_⟩) (by assumption) ?_
        rotate_left
        · (intro w' hSw; (try dsimp only at hSw); go_simp <;> (with_reducible rfl))
        try simp only [Act.put, List.setIfInBounds_toArray, List.set_cons_zero, List.set_cons_succ]
        refine wpAnyH_take (i := 26) (oi := ⟨some 75, _, _, _, _, _⟩) (v := ?_) rfl (by kernel_rfl) (by kernel_rfl) (by kernel_rfl) (fun _ _ _ h => h) (Or.inl ⟨by rfl, ?_⟩) (by assumption) ?_
        rotate_left
        · (intro w' hSw; (try dsimp only at hSw); go_simp <;> (with_reducible rfl))
        try simp only [Act.put, List.setIfInBounds_toArray, List.set_cons_zero, List.set_cons_succ]
        refine wpAnyH_take (i := 27) (oi := ⟨some 76, _, _, _, _, _⟩) (v := ?_) rfl (by kernel_rfl) (by kernel_rfl) (by kernel_rfl) (fun _ _ _ h => h) (Or.inl ⟨by rfl, ?_⟩) (by assumption) ?_
        rotate_left
        · (intro w' hSw; (try dsimp only at hSw); go_simp <;> (with_reducible rfl))
        try simp only [Act.put, List.setIfInBounds_toArray, List.set_cons_zero, List.set_cons_succ]
        refine wpAnyH_take (i := 28) (oi := ⟨some 77, _, _, _, _, _⟩) (v := ?_) rfl (by kernel_rfl) (by kernel_rfl) (by kernel_rfl) (fun _ _ _ h => h) (Or.inl ⟨by rfl, ?_⟩) (by assumption) ?_
        rotate_left
        · (intro w' hSw; (try dsimp only at hSw); go_simp <;> (with_reducible rfl))
        try simp only [Act.put, List.setIfInBounds_toArray, List.set_cons_zero, List.set_cons_succ]
        refine wpAnyH_take (i := 29) (oi := ⟨some 78, _, _, _, _, _⟩) (v := ?_) rfl (by kernel_rfl) (by kernel_rfl) (by kernel_rfl) (fun _ _ _ h => h) (Or.inl ⟨by rfl, ?_⟩) (by assumption) ?_
        rotate_left
        · (intro w' hSw; (try dsimp only at hSw); go_simp <;> (with_reducible rfl))
        try simp only [Act.put, List.setIfInBounds_toArray, List.set_cons_zero, List.set_cons_succ]
        refine wpAnyH_take (i := 30) (oi := ⟨some 79, _, _, _, _, _⟩) (v := ?_) rfl (by kernel_rfl) (by kernel_rfl) (by kernel_rfl) (fun _ _ _ h => h) (Or.inl ⟨by rfl, ?_⟩) (by assumption) ?_
        rotate_left
        · (intro w' hSw; (try dsimp only at hSw); go_simp <;> (with_reducible rfl))
        try simp only [Act.put, List.setIfInBounds_toArray, List.set_cons_zero, List.set_cons_succ]
        refine wpAnyH_ready (rs := [15]) (by kernel_rfl) (by simp) ?_
        refine AllReadyH.cons (o := ⟨some 64, _, _, _, _, _⟩) rfl (fun K' hK => ?_) AllReadyH.nil
        go_simp
        go_at_call 71
        refine (HZA.out _).mono ?_
        rintro e_ v_ ⟨rfl, hv_⟩
        have hv_ := hv_.symm
        subst hv_
        go_wp2_with fail
        refine hK.out _ _ ⟨(HPJ.out _ HJc.out).1, (HPJ.out _ HJc.out).2.1, (HPI.out _ HIc.out).1, (HPI.out _ HIc.out).2.1, HX.out.at_ 1, HX.out.at_ 2⟩ (fun hHeld => ?_)
        clear hK K'
        try simp only [Act.put, List.setIfInBounds_toArray, List.set_cons_zero, List.set_cons_succ]
        refine wpAnyH_ready (rs := [31]) (by kernel_rfl) (by simp) ?_
        refine AllReadyH.cons (o := ⟨some 80, _, _, _, _, _⟩) rfl (fun K' hK => ?_) AllReadyH.nil
        go_simp
        go_at_call 71
        refine (HZB.out _).mono ?_
        rintro e_ v_ ⟨rfl, hv_⟩
        have hv_ := hv_.symm
        subst hv_
        go_wp2_with fail
        refine hK.out _ _ ⟨(HPJ.out _ HJc.out).1, (HPJ.out _ HJc.out).2.1, (HPI.out _ HIc.out).1, (HPI.out _ HIc.out).2.1, HX.out.at_ 1, HX.out.at_ 2⟩ (fun hHeld => ?_)
        clear hK K'
        try simp only [Act.put, List.setIfInBounds_toArray, List.set_cons_zero, List.set_cons_succ]
        refine wpAnyH_take (i := 32) (oi := ⟨some 81, _, _, _, _, _⟩) (v := ?_) rfl (by kernel_rfl) (by kernel_rfl) (by kernel_rfl) (fun _ _ _ h => h) (Or.inl ⟨by rfl, ?_⟩) (by assumption) ?_
        rotate_left
        · (intro w' hSw; (try dsimp only at hSw); go_simp <;> (with_reducible rfl))
        try simp only [Act.put, List.setIfInBounds_toArray, List.set_cons_zero, List.set_cons_succ]
        refine wpAnyH_take (i := 33) (oi := ⟨some 11, _, _, _, _, _⟩) (v := ?_) rfl (by kernel_rfl) (by kernel_rfl) (by kernel_rfl) (fun _ _ _ h => h) (Or.inl ⟨by rfl, ?_⟩) (by assumption) ?_
        rotate_left
        · (intro w' hSw; (try dsimp only at hSw); go_simp <;> (with_reducible rfl))
        try simp only [Act.put, List.setIfInBounds_toArray, List.set_cons_zero, List.set_cons_succ]
        refine wpAnyH_done (by kernel_rfl) ?_ _
        clear hHeld HZA HZB HPI HPJ HIc HJc
        by_cases hau : a < t
        case pos =>
          rw [if_pos hau] at hs
          go_wp2_with fail
          go_roundw
          case rel => exact ⟨j + 1, by omega, by go_num, (by rw [hs]; first | done | (split <;> first | rfl | (exfalso; omega))), by rw [hs], HX, HB⟩
          case measure => simp [Go.RowKit.intOf]; omega
        rw [if_neg hau] at hs
        go_wp2_with fail
        go_roundw
        case rel => exact ⟨j + 1, by omega, by go_num, by rw [hs], by rw [hs], HX, HB⟩
        case measure => simp [Go.RowKit.intOf]; omega
      obtain rfl : t = zr := by rw [hz]; omega
      clear hz
      refine wp_region_held_drew (S := fun w' => w'.cell? ⟨pb, po + j * 2, none⟩ = some (.int .i64 y.re) ∧ w'.cell? ⟨pb, po + j * 2 + 1, none⟩ = some (.int .i64 y.im) ∧ w'.cell? ⟨sb, so + j * 2, none⟩ = some (.int .i64 x.re) ∧ w'.cell? ⟨sb, so + j * 2 + 1, none⟩ = some (.int .i64 x.im) ∧ w'.cell? ⟨b2, 1, none⟩ = some (.int .i64 gn) ∧ w'.cell? ⟨b2, 2, none⟩ = some (.slice (some ⟨sb, so, none⟩) m d)) (by kernel_rfl) ⟨(HPJ.out _ HJc.out).1, (HPJ.out _ HJc.out).2.1, (HPI.out _ HIc.out).1, (HPI.out _ HIc.out).2.1, HX.out.at_ 1, HX.out.at_ 2⟩ (fun hHeld => ?_)
      obtain ⟨w_4, hw_4⟩ : ∃ q : World, q = wA.drew := ⟨_, rfl⟩
      rw [← hw_4] at hHeld ⊢
      have hc_4 : Below wA.heap.size wA w_4 := by rw [hw_4]; exact (Below.refl _ _).drew
      clear hw_4
      replace HJc := hide (HJc.out.below hc_4)
      replace HIc := hide (HIc.out.below hc_4)
      replace HX := hide (HX.out.below hc_4)
      replace HB := hide (HB.out.trans (hc_4.mono (Nat.le_of_lt hlA)))
      replace hlA := Nat.lt_of_lt_of_le hlA hc_4.size
      clear hc_4
      refine wpAnyH_take (i := 0) (oi := ⟨some 49, _, _, _, _, _⟩) (v := ?_) rfl (by kernel_rfl) (by kernel_rfl) (by kernel_rfl) (fun _ _ _ h => h) (Or.inl ⟨by rfl, ?_⟩) (by assumption) ?_
      rotate_left
      · (intro w' hSw; (try dsimp only at hSw); go_simp <;> (with_reducible rfl))
      try simp only [Act.put, List.setIfInBounds_toArray, List.set_cons_zero, List.set_cons_succ]
      refine wpAnyH_take (i := 1) (oi := ⟨some 50, _, _, _, _, _⟩) (v := ?_) rfl (by kernel_rfl) (by kernel_rfl) (by kernel_rfl) (fun _ _ _ h => h) (Or.inl ⟨by rfl, ?_⟩) (by assumption) ?_
      rotate_left
      · (intro w' hSw; (try dsimp only at hSw); go_simp <;> (with_reducible rfl))
      try simp only [Act.put, List.setIfInBounds_toArray, List.set_cons_zero, List.set_cons_succ]
      refine wpAnyH_take (i := 2) (oi := ⟨some 51, _, _, _, _, _⟩) (v := ?_) rfl (by kernel_rfl) (by kernel_rfl) (by kernel_rfl) (fun _ _ _ h => h) (Or.inl ⟨by rfl, ?_⟩) (by assumption) ?_
      rotate_left
      · (intro w' hSw; (try dsimp only at hSw); go_simp <;> (with_reducible rfl))
      try simp only [Act.put, List.setIfInBounds_toArray, List.set_cons_zero, List.set_cons_succ]
      refine wpAnyH_take (i := 3) (oi := ⟨some 52, _, _, _, _, _⟩) (v := ?_) rfl (by kernel_rfl) (by kernel_rfl) (by kernel_rfl) (fun _ _ _ h => h) (Or.inl ⟨by rfl, ?_⟩) (by assumption) ?_
      rotate_left
      · (intro w' hSw; (try dsimp only at hSw); go_simp <;> (with_reducible rfl))
      try simp only [Act.put, List.setIfInBounds_toArray, List.set_cons_zero, List.set_cons_succ]
      refine wpAnyH_take (i := 4) (oi := ⟨some 53, _, _, _, _, _⟩) (v := ?_) rfl (by kernel_rfl) (by kernel_rfl) (by kernel_rfl) (fun _ _ _ h => h) (Or.inl ⟨by rfl, ?_⟩) (by assumption) ?_
      rotate_left
      · (intro w' hSw; (try dsimp only at hSw); go_simp <;> (with_reducible rfl))
      try simp only [Act.put, List.setIfInBounds_toArray, List.set_cons_zero, List.set_cons_succ]
      refine wpAnyH_take (i := 5) (oi := ⟨some 54, _, _, _, _, _⟩) (v := ?_) rfl (by kernel_rfl) (by kernel_rfl) (by kernel_rfl) (fun _ _ _ h => h) (Or.inl ⟨by rfl, ?_⟩) (by assumption) ?_
      rotate_left
      · (intro w' hSw; (try dsimp only at hSw); go_simp <;> (with_reducible rfl))
      try simp only [Act.put, List.setIfInBounds_toArray, List.set_cons_zero, List.set_cons_succ]
      refine wpAnyH_take (i := 6) (oi := ⟨some 55, _, _, _, _, _⟩) (v := ?_) rfl (by kernel_rfl) (by kernel_rfl) (by kernel_rfl) (fun _ _ _ h => h) (Or.inl ⟨by rfl, ?_⟩) (by assumption) ?_
      rotate_left
      · (intro w' hSw; (try dsimp only at hSw); go_simp <;> (with_reducible rfl))
      try simp only [Act.put, List.setIfInBounds_toArray, List.set_cons_zero, List.set_cons_succ]
      refine wpAnyH_take (i := 7) (oi := ⟨some 56, _, _, _, _, _⟩) (v := ?_) rfl (by kernel_rfl) (by kernel_rfl) (by kernel_rfl) (fun _ _ _ h => h) (Or.inl ⟨by rfl, ?_⟩) (by assumption) ?_
      rotate_left
      · (intro w' hSw; (try dsimp only at hSw); go_simp <;> (with_reducible rfl))
      try simp only [Act.put, List.setIfInBounds_toArray, List.set_cons_zero, List.set_cons_succ]
      refine wpAnyH_take (i := 8) (oi := ⟨some 57, _, _, _, _, _⟩) (v := ?_) rfl (by kernel_rfl) (by kernel_rfl) (by kernel_rfl) (fun _ _ _ h => h) (Or.inl ⟨by rfl, ?_⟩) (by assumption) ?_
      rotate_left
      · (intro w' hSw; (try dsimp only at hSw); go_simp <;> (with_reducible rfl))
      try simp only [Act.put, List.setIfInBounds_toArray, List.set_cons_zero, List.set_cons_succ]
      refine wpAnyH_take (i := 9) (oi := ⟨some 58, _, _, _, _, _⟩) (v := ?_) rfl (by kernel_rfl) (by kernel_rfl) (by kernel_rfl) (fun _ _ _ h => h) (Or.inl ⟨by rfl, ?_⟩) (by assumption) ?_
      rotate_left
      · (intro w' hSw; (try dsimp only at hSw); go_simp <;> (with_reducible rfl))
      try simp only [Act.put, List.setIfInBounds_toArray, List.set_cons_zero, List.set_cons_succ]
      refine wpAnyH_take (i := 10) (oi := ⟨some 59, _, _, _, _, _⟩) (v := ?_) rfl (by kernel_rfl) (by kernel_rfl) (by kernel_rfl) (fun _ _ _ h => h) (Or.inl ⟨by rfl, ?_⟩) (by assumption) ?_
      rotate_left
      · (intro w' hSw; (try dsimp only at hSw); go_simp <;> (with_reducible rfl))
      try simp only [Act.put, List.setIfInBounds_toArray, List.set_cons_zero, List.set_cons_succ]
      refine wpAnyH_take (i := 11) (oi := ⟨some 60, _, _, _, _, _⟩) (v := ?_) rfl (by kernel_rfl) (by kernel_rfl) (by kernel_rfl) (fun _ _ _ h => h) (Or.inl ⟨by rfl, ?_⟩) (by assumption) ?_
      rotate_left
      · (intro w' hSw; (try dsimp only at hSw); go_simp <;> (with_reducible rfl))
      try simp only [Act.put, List.setIfInBounds_toArray, List.set_cons_zero, List.set_cons_succ]
      refine wpAnyH_take (i := 12) (oi := ⟨some 61, _, _, _, _, _⟩) (v := ?_) rfl (by kernel_rfl) (by kernel_rfl) (by kernel_rfl) (fun _ _ _ h => h) (Or.inl ⟨by rfl, ?_⟩) (by assumption) ?_
      rotate_left
      · (intro w' hSw; (try dsimp only at hSw); go_simp <;> (with_reducible rfl))
      try simp only [Act.put, List.setIfInBounds_toArray, List.set_cons_zero, List.set_cons_succ]
      refine wpAnyH_take (i := 13) (oi := ⟨some 62, _, _, _, _, _⟩) (v := ?_) rfl (by kernel_rfl) (by kernel_rfl) (by kernel_rfl) (fun _ _ _ h => h) (Or.inl ⟨by rfl, ?_⟩) (by assumption) ?_
      rotate_left
      · (intro w' hSw; (try dsimp only at hSw); go_simp <;> (with_reducible rfl))
      try simp only [Act.put, List.setIfInBounds_toArray, List.set_cons_zero, List.set_cons_succ]
      refine wpAnyH_take (i := 14) (oi := ⟨some 63, _, _, _, _, _⟩) (v := ?_) rfl (by kernel_rfl) (by kernel_rfl) (by kernel_rfl) (fun _ _ _ h => h) (Or.inl ⟨by rfl, ?_⟩) (by assumption) ?_
      rotate_left
      · (intro w' hSw; (try dsimp only at hSw); go_simp <;> (with_reducible rfl))
      try simp only [Act.put, List.setIfInBounds_toArray, List.set_cons_zero, List.set_cons_succ]
      refine wpAnyH_take (i := 16) (oi := ⟨some 65, _, _, _, _, _⟩) (v := ?_) rfl (by kernel_rfl) (by kernel_rfl) (by kernel_rfl) (fun _ _ _ h => h) (Or.inl ⟨by rfl, ?_⟩) (by assumption) ?_
      rotate_left
      · (intro w' hSw; (try dsimp only at hSw); go_simp <;> (with_reducible rfl))
      try simp only [Act.put, List.setIfInBounds_toArray, List.set_cons_zero, List.set_cons_succ]
      refine wpAnyH_take (i := 17) (oi := ⟨some 66, _, _, _, _, _⟩) (v := ?_) rfl (by kernel_rfl) (by kernel_rfl) (by kernel_rfl) (fun _ _ _ h => h) (Or.inl ⟨by rfl, ?_⟩) (by assumption) ?_
      rotate_left
      · (intro w' hSw; (try dsimp only at hSw); go_simp <;> (with_reducible rfl))
      try simp only [Act.put, List.setIfInBounds_toArray, List.set_cons_zero, List.set_cons_succ]
      refine wpAnyH_take (i := 18) (oi := ⟨some 67, _, _, _, _, _⟩) (v := ?_) rfl (by kernel_rfl) (by kernel_rfl) (by kernel_rfl) (fun _ _ _ h => h) (Or.inl ⟨by rfl, ?_⟩) (by assumption) ?_
      rotate_left
      · (intro w' hSw; (try dsimp only at hSw); go_simp <;> (with_reducible rfl))
      try simp only [Act.put, List.setIfInBounds_toArray, List.set_cons_zero, List.set_cons_succ]
      refine wpAnyH_take (i := 19) (oi := ⟨some 68, _, _, _, _, _⟩) (v := ?_) rfl (by kernel_rfl) (by kernel_rfl) (by kernel_rfl) (fun _ _ _ h => h) (Or.inl ⟨by rfl, ?_⟩) (by assumption) ?_
      rotate_left
      · (intro w' hSw; (try dsimp only at hSw); go_simp <;> (with_reducible rfl))
      try simp only [Act.put, List.setIfInBounds_toArray, List.set_cons_zero, List.set_cons_succ]
      refine wpAnyH_take (i := 20) (oi := ⟨some 69, _, _, _, _, _⟩) (v := ?_) rfl (by kernel_rfl) (by kernel_rfl) (by kernel_rfl) (fun _ _ _ h => h) (Or.inl ⟨by rfl, ?_⟩) (by assumption) ?_
      rotate_left
      · (intro w' hSw; (try dsimp only at hSw); go_simp <;> (with_reducible rfl))
      try simp only [Act.put, List.setIfInBounds_toArray, List.set_cons_zero, List.set_cons_succ]
      refine wpAnyH_take (i := 21) (oi := ⟨some 70, _, _, _, _, _⟩) (v := ?_) rfl (by kernel_rfl) (by kernel_rfl) (by kernel_rfl) (fun _ _ _ h => h) (Or.inl ⟨by rfl, ?_⟩) (by assumption) ?_
      rotate_left
      · (intro w' hSw; (try dsimp only at hSw); go_simp <;> (with_reducible rfl))
      try simp only [Act.put, List.setIfInBounds_toArray, List.set_cons_zero, List.set_cons_succ]
      refine wpAnyH_take (i := 22) (oi := ⟨some 71, _, _, _, _, _⟩) (v := ?_) rfl (by kernel_rfl) (by kernel_rfl) (by kernel_rfl) (fun _ _ _ h => h) (Or.inl ⟨by rfl, ?_⟩) (by assumption) ?_
      rotate_left
      · (intro w' hSw; (try dsimp only at hSw); go_simp <;> (with_reducible rfl))
      try simp only [Act.put, List.setIfInBounds_toArray, List.set_cons_zero, List.set_cons_succ]
      refine wpAnyH_take (i := 23) (oi := ⟨some 72, _, _, _, _, _⟩) (v := ?_) rfl (by kernel_rfl) (by kernel_rfl) (by kernel_rfl) (fun _ _ _ h => h) (Or.inl ⟨by rfl, ?_⟩) (by assumption) ?_
      rotate_left
      · (intro w' hSw; (try dsimp only at hSw); go_simp <;> (with_reducible rfl))
      try simp only [Act.put, List.setIfInBounds_toArray, List.set_cons_zero, List.set_cons_succ]
      refine wpAnyH_take (i := 24) (oi := ⟨some 73, _, _, _, _, _⟩) (v := ?_) rfl (by kernel_rfl) (by kernel_rfl) (by kernel_rfl) (fun _ _ _ h => h) (Or.inl ⟨by rfl, ?_⟩) (by assumption) ?_
      rotate_left
      · (intro w' hSw; (try dsimp only at hSw); go_simp <;> (with_reducible rfl))
      try simp only [Act.put, List.setIfInBounds_toArray, List.set_cons_zero, List.set_cons_succ]
      refine wpAnyH_take (i := 25) (oi := ⟨some 74, _, _, _, _, _⟩) (v := ?_) rfl (by kernel_rfl) (by kernel_rfl) (by kernel_rfl) (fun _ _ _ h => h) (Or.inl ⟨by rfl, ?_⟩) (by assumption) ?_
      rotate_left
      · (intro w' hSw; (try dsimp only at hSw); go_simp <;> (with_reducible rfl))
      try simp only [Act.put, List.setIfInBounds_toArray, List.set_cons_zero, List.set_cons_succ]
      refine wpAnyH_take (i := 26) (oi := ⟨some 75, _, _, _, _, _⟩) (v := ?_) rfl (by kernel_rfl) (by kernel_rfl) (by kernel_rfl) (fun _ _ _ h => h) (Or.inl ⟨by rfl, ?_⟩) (by assumption) ?_
      rotate_left
      · (intro w' hSw; (try dsimp only at hSw); go_simp <;> (with_reducible rfl))
      try simp only [Act.put, List.setIfInBounds_toArray, List.set_cons_zero, List.set_cons_succ]
      refine wpAnyH_take (i := 27) (oi := ⟨some 76, _, _, _, _, _⟩) (v := ?_) rfl (by kernel_rfl) (by kernel_rfl) (by kernel_rfl) (fun _ _ _ h => h) (Or.inl ⟨by rfl, ?_⟩) (by assumption) ?_
      rotate_left
      · (intro w' hSw; (try dsimp only at hSw); go_simp <;> (with_reducible rfl))
      try simp only [Act.put, List.setIfInBounds_toArray, List.set_cons_zero, List.set_cons_succ]
      refine wpAnyH_take (i := 28) (oi := ⟨some 77, _, _, _, _, _⟩) (v := ?_) rfl (by kernel_rfl) (by kernel_rfl) (by kernel_rfl) (fun _ _ _ h => h) (Or.inl ⟨by rfl, ?_⟩) (by assumption) ?_
      rotate_left
      · (intro w' hSw; (try dsimp only at hSw); go_simp <;> (with_reducible rfl))
      try simp only [Act.put, List.setIfInBounds_toArray, List.set_cons_zero, List.set_cons_succ]
      refine wpAnyH_take (i := 29) (oi := ⟨some 78, _, _, _, _, _⟩) (v := ?_) rfl (by kernel_rfl) (by kernel_rfl) (by kernel_rfl) (fun _ _ _ h => h) (Or.inl ⟨by rfl, ?_⟩) (by assumption) ?_
      rotate_left
      · (intro w' hSw; (try dsimp only at hSw); go_simp <;> (with_reducible rfl))
      try simp only [Act.put, List.setIfInBounds_toArray, List.set_cons_zero, List.set_cons_succ]
      refine wpAnyH_take (i := 30) (oi := ⟨some 79, _, _, _, _, _⟩) (v := ?_) rfl (by kernel_rfl) (by kernel_rfl) (by kernel_rfl) (fun _ _ _ h => h) (Or.inl ⟨by rfl, ?_⟩) (by assumption) ?_
      rotate_left
      · (intro w' hSw; (try dsimp only at hSw); go_simp <;> (with_reducible rfl))
      try simp only [Act.put, List.setIfInBounds_toArray, List.set_cons_zero, List.set_cons_succ]
      refine wpAnyH_ready (rs := [15]) (by kernel_rfl) (by simp) ?_
      refine AllReadyH.cons (o := ⟨some 64, _, _, _, _, _⟩) rfl (fun K' hK => ?_) AllReadyH.nil
      go_simp
      go_at_call 71
      refine (HZA.out _).mono ?_
      rintro e_ v_ ⟨rfl, hv_⟩
      have hv_ := hv_.symm
      subst hv_
      go_wp2_with fail
      refine hK.out _ _ ⟨(HPJ.out _ HJc.out).1, (HPJ.out _ HJc.out).2.1, (HPI.out _ HIc.out).1, (HPI.out _ HIc.out).2.1, HX.out.at_ 1, HX.out.at_ 2⟩ (fun hHeld => ?_)
      clear hK K'
      try simp only [Act.put, List.setIfInBounds_toArray, List.set_cons_zero, List.set_cons_succ]
      refine wpAnyH_ready (rs := [31]) (by kernel_rfl) (by simp) ?_
      refine AllReadyH.cons (o := ⟨some 80, _, _, _, _, _⟩) rfl (fun K' hK => ?_) AllReadyH.nil
      go_simp
      go_at_call 71
      refine (HZB.out _).mono ?_
      rintro e_ v_ ⟨rfl, hv_⟩
      have hv_ := hv_.symm
      subst hv_
      go_wp2_with fail
      refine hK.out _ _ ⟨(HPJ.out _ HJc.out).1, (HPJ.out _ HJc.out).2.1, (HPI.out _ HIc.out).1, (HPI.out _ HIc.out).2.1, HX.out.at_ 1, HX.out.at_ 2⟩ (fun hHeld => ?_)
      clear hK K'
      try simp only [Act.put, List.setIfInBounds_toArray, List.set_cons_zero, List.set_cons_succ]
      refine wpAnyH_take (i := 32) (oi := ⟨some 81, _, _, _, _, _⟩) (v := ?_) rfl (by kernel_rfl) (by kernel_rfl) (by kernel_rfl) (fun _ _ _ h => h) (Or.inl ⟨by rfl, ?_⟩) (by assumption) ?_
      rotate_left
      · (intro w' hSw; (try dsimp only at hSw); go_simp <;> (with_reducible rfl))
      try simp only [Act.put, List.setIfInBounds_toArray, List.set_cons_zero, List.set_cons_succ]
      refine wpAnyH_take (i := 33) (oi := ⟨some 11, _, _, _, _, _⟩) (v := ?_) rfl (by kernel_rfl) (by kernel_rfl) (by kernel_rfl) (fun _ _ _ h => h) (Or.inl ⟨by rfl, ?_⟩) (by assumption) ?_
      rotate_left
      · (intro w' hSw; (try dsimp only at hSw); go_simp <;> (with_reducible rfl))
      try simp only [Act.put, List.setIfInBounds_toArray, List.set_cons_zero, List.set_cons_succ]
      refine wpAnyH_done (by kernel_rfl) ?_ _
      clear hHeld HZA HZB HPI HPJ HIc HJc
      by_cases hau : a < t
      case pos =>
        rw [if_pos hau] at hs
        go_wp2_with fail
        go_roundw
        case rel => exact ⟨j + 1, by omega, by go_num, (by rw [hs]; first | done | (split <;> first | rfl | (exfalso; omega))), by rw [hs], HX, HB⟩
        case measure => simp [Go.RowKit.intOf]; omega
      rw [if_neg hau] at hs
      go_wp2_with fail
      go_roundw
      case rel => exact ⟨j + 1, by omega, by go_num, by rw [hs], by rw [hs], HX, HB⟩
      case measure => simp [Go.RowKit.intOf]; omega
end Go.Proofs.Ytceohaeebdhmjaa
/- Soft of the reference. -/
namespace Go.Proofs.Ytceohaeebdhmjaa
open Go Go.RowKit Go.Lib
theorem one_cell (w : World) (x : Int) (t : TypeId) (g : Nat) (hg : w.heap.size = g) : IntsAt (w.alloc (.cells #[.int .i64 x] t)) 0 (some ⟨g, 0, none⟩) 1 (fun _ => x) := fun k hk => by
  have hb : Box (w.alloc (.cells #[.int .i64 x] t)) g t #[.int .i64 x] := Box.made hg.symm
  refine ⟨g, 0, rfl, Nat.zero_le _, hb.lt, ?_⟩
  obtain rfl : k = 0 := by omega
  exact hb.at_ 0
theorem part_cell {W : World} {b r : Nat} {t : TypeId} {x : Gau} (hr : r < 2) (h : Box W b t #[.int .i64 x.re, .int .i64 x.im]) : W.cell? ⟨b, r, none⟩ = some (.int .i64 (x.part r)) := by
  obtain rfl | rfl : r = 0 ∨ r = 1 := by omega
  · exact h.at_ 0
  · exact h.at_ 1
theorem part_in {r : Nat} {x : Gau} (hr : r < 2) (h : x.Within 100000000) : -100000000 ≤ x.part r ∧ x.part r ≤ 100000000 := by
  obtain rfl | rfl : r = 0 ∨ r = 1 := by omega
  · exact h.re
  · exact h.im
set_option maxHeartbeats 8000000 in
set_option maxRecDepth 100000 in
theorem SoftR_any (gn : Int) (c : Nat) (A : Option Addr) (n d : Nat) (F : Nat → Gau) (w : World) (hc1 : 1 ≤ c) (hc3 : c ≤ 3) (hn : n ≤ 200) (hg : 1 ≤ gn ∧ gn ≤ 10000000) (hF : ∀ j, j < n → (F j).Within 100000000) (hI : GausAt w 0 A n F) :
    Calls Try.prog 42 #[.agg #[.int .i64 (2 * (c : Int)), .int .i64 gn, .slice A n d]] w fun e w' => ∃ v, e = .returned v ∧ OwnInts w' (w.heap.size + 1) v (n * (2 * c)) (bopF c (fun p => softP p gn c) F) ∧ Below w.heap.size w w' := by
  have HI := hide hI
  have HF := hide hF
  obtain ⟨B, hB⟩ : ∃ z, (fun p => softP p gn c) = z := ⟨_, rfl⟩
  have HT := hide (show ∀ (p : Int) (i : Nat) (W : World), -100000000 ≤ p ∧ p ≤ 100000000 → i < c → Calls Try.prog 81 #[.int .i64 (c : Int), .int .i64 gn, .int .i64 p, .int .i64 (i : Int)] W fun e w' => e = .returned (.int .i64 (B p i)) ∧ Below W.heap.size W w' from fun p i W hp hi => by rw [← hB]; exact soft_any p gn c i W hp hg hc1 hc3 hi)
  rw [hB]
  have q2 : (2 * (c : Int)).tdiv 2 = (c : Int) := by rw [Int.tdiv_eq_ediv_of_nonneg (by omega)]; omega
  have q3 : IntKind.i64.wrap (c : Int) = (c : Int) := IntWalk.i64_in _ (by omega)
  clear hI hF hB
  go_enter Try.func42, Try.ntmps42
  go_upto_region 1 with fail
  obtain ⟨w1, hw1⟩ : ∃ q : World, q = w.alloc (.cells #[.int .i64 (2 * (c : Int)), .int .i64 gn, .slice A n d] 58) := ⟨_, rfl⟩
  try rw [← hw1]
  have HX := hide (show Box w1 w.heap.size 58 #[.int .i64 (2 * (c : Int)), .int .i64 gn, .slice A n d] by rw [hw1]; exact Box.made rfl)
  have HB := hide (show Below w.heap.size w w1 by rw [hw1]; (repeat (first | (with_reducible exact Below.refl _ _) | (with_reducible refine Go.below_drewN ?_ _) | (with_reducible refine Below.drew ?_) | (with_reducible refine Below.alloc ?_ (by first | exact Nat.le_refl _ | (simp; done) | (simp; omega) | omega) _) | (with_reducible refine Below.setCell ?_ (by first | exact Nat.le_refl _ | (simp; done) | (simp; omega) | omega) _))))
  clear hw1
  obtain ⟨b2, hb2⟩ : ∃ z, w.heap.size = z := ⟨_, rfl⟩
  simp only [hb2] at HX HB ⊢
  go_wp2_with fail
  go_loopw [3, 4] (fun v i wr => ∃ j : Nat, j ≤ n ∧ i = .int .i64 (j : Int) ∧ Hid (OwnInts wr (b2 + 1) v (j * (2 * c)) (bopF c B F)) ∧ Hid (Box wr b2 58 #[.int .i64 (2 * (c : Int)), .int .i64 gn, .slice A n d]) ∧ Hid (Below b2 w wr)) (fun _ i _ => n - (Go.RowKit.intOf i).toNat)
  case atStart => exact ⟨0, Nat.zero_le _, rfl, hide (by rw [Nat.zero_mul]; exact OwnInts.nil_ _ _ _), HX, HB⟩
  case round =>
    clear HX HB
    obtain ⟨j, hj, rfl, HO, HX, HB⟩ := hrel
    obtain ⟨wA, rfl⟩ : ∃ x : World, x = wr := ⟨_, rfl⟩
    obtain ⟨c0, c1, c2, hlz⟩ := rec_cells HX.out
    by_cases hlt : j < n
    case neg =>
      obtain rfl : n = j := by omega
      have hltz : ¬ (n : Int) < (n : Int) := by omega
      obtain ⟨As, cs, rfl, hcs, -⟩ := HO.out.form
      clear HT HF HI
      go_wp2_with fail
      go_ret
      first | exact ⟨_, rfl, HO.out, HB.out⟩ | exact ⟨HO.out, HB.out⟩ | (subst hb2; first | exact ⟨_, rfl, HO.out, HB.out⟩ | exact ⟨HO.out, HB.out⟩)
    have hltz : (j : Int) < (n : Int) := by omega
    obtain ⟨b, o, rfl, -, hbw, y0, y1⟩ := (HI.out.below (by rw [hb2]; exact HB.out)) j hlt
    have hFj := HF.out j hlt
    obtain ⟨As, cs, rfl, hcs, -⟩ := HO.out.form
    have HOF := hide (fun r (hr : r < 2 * c) => bopF_at B F (j := j) hr)
    obtain ⟨x, hx⟩ : ∃ z, F j = z := ⟨_, rfl⟩
    rw [hx] at y0 y1 hFj HOF
    clear hx
    obtain ⟨N, hN⟩ : ∃ N, j * (2 * c) = N := ⟨_, rfl⟩
    have HN := hide (show (j + 1) * (2 * c) = N + 2 * c by rw [Nat.add_mul, Nat.one_mul, hN])
    rw [hN] at HO HOF
    have hN9 : N ≤ 1200 := by rw [← hN]; exact Nat.le_trans (Nat.mul_le_mul (show j ≤ 200 by omega) (show 2 * c ≤ 6 by omega)) (by decide)
    simp only [hN]
    clear hN
    have hsA := HX.out.lt
    go_upto_region 6 with (go_at_call 79; refine (parts_any x _).mono ?_; rintro e_ w_p ⟨rfl, hp_2⟩; replace HO := hide (HO.out.below hp_2); replace HX := hide (HX.out.below hp_2); replace HB := hide (HB.out.trans (hp_2.mono (Nat.le_of_lt hsA))); replace hsA := Nat.lt_of_lt_of_le hsA hp_2.size; clear hp_2)
    clear c0 c1 c2 hlz y0 y1
    obtain ⟨b10, hb10⟩ : ∃ z, w_p.heap.size = z := ⟨_, rfl⟩
    obtain ⟨w3, hw3⟩ : ∃ q : World, q = w_p.alloc (.cells #[.int .i64 x.re, .int .i64 x.im] 105) := ⟨_, rfl⟩
    try rw [← hw3]
    simp only [hb10]
    have HG := hide (show Box w3 b10 105 #[.int .i64 x.re, .int .i64 x.im] by rw [hw3]; exact Box.made hb10.symm)
    have hc3 : Below w_p.heap.size w_p w3 := by rw [hw3]; (repeat (first | (with_reducible exact Below.refl _ _) | (with_reducible refine Go.below_drewN ?_ _) | (with_reducible refine Below.drew ?_) | (with_reducible refine Below.alloc ?_ (by first | exact Nat.le_refl _ | (simp; done) | (simp; omega) | omega) _) | (with_reducible refine Below.setCell ?_ (by first | exact Nat.le_refl _ | (simp; done) | (simp; omega) | omega) _)))
    have hv1 : (Value.slice As N cs).ownBlock ≠ some b10 := fun e => by have := (ownV_at (w' := w_p) (v' := Value.slice As N cs) HO.out e).2; omega
    replace HO := hide (HO.out.below hc3)
    replace HX := hide (HX.out.below hc3)
    replace HB := hide (HB.out.trans (hc3.mono (by omega)))
    have h210 : b2 < b10 := by omega
    clear hw3 hc3
    go_wp2_with fail
    go_loopw [3, 6] (fun v z wr => ∃ k : Nat, k ≤ 2 * c ∧ z = .int .i64 (k : Int) ∧ Hid (OwnInts wr (b2 + 1) v (N + k) (bopF c B F)) ∧ v.ownBlock ≠ some b10 ∧ Hid (Box wr b10 105 #[.int .i64 x.re, .int .i64 x.im]) ∧ Hid (Box wr b2 58 #[.int .i64 (2 * (c : Int)), .int .i64 gn, .slice (some ⟨b, o, none⟩) n d]) ∧ Hid (Below b2 w wr)) (fun _ z _ => 2 * c - (Go.RowKit.intOf z).toNat)
    case atStart => exact ⟨0, Nat.zero_le _, rfl, HO, hv1, HG, HX, HB⟩
    case round =>
      clear HO hv1 HG HX HB hsA hb10
      obtain ⟨k, hk, rfl, HO, hv1, HG, HX, HB⟩ := hrel
      obtain ⟨wB, rfl⟩ : ∃ x : World, x = wr := ⟨_, rfl⟩
      obtain ⟨As2, cs2, rfl, hcs2, -⟩ := HO.out.form
      obtain ⟨c0, c1, c2, hlz⟩ := rec_cells HX.out
      by_cases hlt2 : k < 2 * c
      case neg =>
        have hkc : k = 2 * c := by omega
        have hltz2 : ¬ (k : Int) < 2 * (c : Int) := by omega
        clear HOF
        go_wp2_with fail
        go_roundw
        case rel => exact ⟨j + 1, by omega, by go_num, by rw [HN.out, ← hkc]; exact HO, HX, HB⟩
        case measure => simp [Go.RowKit.intOf]; omega
      have hltz2 : (k : Int) < 2 * (c : Int) := by omega
      obtain ⟨r, hr⟩ : ∃ r, k % 2 = r := ⟨_, rfl⟩
      obtain ⟨i, hi⟩ : ∃ i, k / 2 = i := ⟨_, rfl⟩
      have hr2 : r < 2 := by omega
      have hic : i < c := by omega
      have hiz : (i : Int) < (c : Int) := by omega
      have hrz : (r : Int) < 2 := by omega
      have q4 : (k : Int).tmod 2 = (r : Int) := by rw [Int.tmod_eq_emod_of_nonneg (by omega)]; omega
      have q5 : (k : Int).tdiv 2 = (i : Int) := by rw [Int.tdiv_eq_ediv_of_nonneg (by omega)]; omega
      have q6 : IntKind.i64.wrap (r : Int) = (r : Int) := IntWalk.i64_in _ (by omega)
      have q7 : IntKind.i64.wrap (i : Int) = (i : Int) := IntWalk.i64_in _ (by omega)
      have hpw := part_in hr2 hFj
      have HPC := hide (fun W1 (h : Box W1 b10 105 #[.int .i64 x.re, .int .i64 x.im]) => part_cell hr2 h)
      have hof := HOF.out k (by omega)
      rw [hr, hi] at hof
      obtain ⟨y, hy⟩ : ∃ z, x.part r = z := ⟨_, rfl⟩
      simp only [hy] at HPC hpw hof
      obtain ⟨s, hs⟩ : ∃ z, B y i = z := ⟨_, rfl⟩
      have HTK := hide (fun W => HT.out y i W hpw hic)
      rw [hs] at HTK hof
      have HNF := hide (show ∀ q, q < N + k + 1 → catF (N + k) (bopF c B F) (fun _ => s) q = bopF c B F q from fun q hq => by
        unfold catF
        by_cases e : q < N + k
        · rw [if_pos e]
        · rw [if_neg e, show q = N + k by omega, hof])
      clear hr hi hy hs hof hpw
      go_upto_region 9 with fail
      clear c0 c1 c2 hlz
      have hX := HX.out.lt
      have hG := HG.out.lt
      refine wp_region_held_drew (S := fun w' => w'.cell? ⟨b10, r, none⟩ = some (.int .i64 y) ∧ w'.cell? ⟨b2, 0, none⟩ = some (.int .i64 (2 * (c : Int))) ∧ w'.cell? ⟨b2, 1, none⟩ = some (.int .i64 gn)) (by kernel_rfl) ⟨HPC.out _ HG.out, HX.out.at_ 0, HX.out.at_ 1⟩ (fun hHeld => ?_)
      obtain ⟨w_1, hw_1⟩ : ∃ q : World, q = wB.drew := ⟨_, rfl⟩
      rw [← hw_1] at hHeld ⊢
      have hc_1 : Below wB.heap.size wB w_1 := by rw [hw_1]; exact (Below.refl _ _).drew
      clear hw_1
      replace HO := hide (HO.out.below hc_1)
      replace HG := hide (HG.out.below hc_1)
      replace HX := hide (HX.out.below hc_1)
      replace HB := hide (HB.out.trans (hc_1.mono (Nat.le_of_lt hX)))
      replace hX := Nat.lt_of_lt_of_le hX hc_1.size
      replace hG := Nat.lt_of_lt_of_le hG hc_1.size
      clear hc_1
      refine wpAnyH_take (i := 0) (oi := ⟨some 26, _, _, _, _, _⟩) (v := ?_) rfl (by kernel_rfl) (by kernel_rfl) (by kernel_rfl) (fun _ _ _ h => h) (Or.inl ⟨by rfl, ?_⟩) (by assumption) ?_
      rotate_left
      · (intro w' hSw; (try dsimp only at hSw); go_simp <;> (with_reducible rfl))
      try simp only [Act.put, List.setIfInBounds_toArray, List.set_cons_zero, List.set_cons_succ]
      refine wpAnyH_take (i := 1) (oi := ⟨some 27, _, _, _, _, _⟩) (v := ?_) rfl (by kernel_rfl) (by kernel_rfl) (by kernel_rfl) (fun _ _ _ h => h) (Or.inl ⟨by rfl, ?_⟩) (by assumption) ?_
      rotate_left
      · (intro w' hSw; (try dsimp only at hSw); go_simp <;> (with_reducible rfl))
      try simp only [Act.put, List.setIfInBounds_toArray, List.set_cons_zero, List.set_cons_succ]
      refine wpAnyH_take (i := 2) (oi := ⟨some 28, _, _, _, _, _⟩) (v := ?_) rfl (by kernel_rfl) (by kernel_rfl) (by kernel_rfl) (fun _ _ _ h => h) (Or.inl ⟨by rfl, ?_⟩) (by assumption) ?_
      rotate_left
      · (intro w' hSw; (try dsimp only at hSw); go_simp <;> (with_reducible rfl))
      try simp only [Act.put, List.setIfInBounds_toArray, List.set_cons_zero, List.set_cons_succ]
      refine wpAnyH_take (i := 3) (oi := ⟨some 29, _, _, _, _, _⟩) (v := ?_) rfl (by kernel_rfl) (by kernel_rfl) (by kernel_rfl) (fun _ _ _ h => h) (Or.inl ⟨by rfl, ?_⟩) (by assumption) ?_
      rotate_left
      · (intro w' hSw; (try dsimp only at hSw); go_simp <;> (with_reducible rfl))
      try simp only [Act.put, List.setIfInBounds_toArray, List.set_cons_zero, List.set_cons_succ]
      refine wpAnyH_take (i := 4) (oi := ⟨some 30, _, _, _, _, _⟩) (v := ?_) rfl (by kernel_rfl) (by kernel_rfl) (by kernel_rfl) (fun _ _ _ h => h) (Or.inl ⟨by rfl, ?_⟩) (by assumption) ?_
      rotate_left
      · (intro w' hSw; (try dsimp only at hSw); go_simp <;> (with_reducible rfl))
      try simp only [Act.put, List.setIfInBounds_toArray, List.set_cons_zero, List.set_cons_succ]
      refine wpAnyH_take (i := 5) (oi := ⟨some 31, _, _, _, _, _⟩) (v := ?_) rfl (by kernel_rfl) (by kernel_rfl) (by kernel_rfl) (fun _ _ _ h => h) (Or.inl ⟨by rfl, ?_⟩) (by assumption) ?_
      rotate_left
      · (intro w' hSw; (try dsimp only at hSw); go_simp <;> (with_reducible rfl))
      try simp only [Act.put, List.setIfInBounds_toArray, List.set_cons_zero, List.set_cons_succ]
      refine wpAnyH_take (i := 6) (oi := ⟨some 32, _, _, _, _, _⟩) (v := ?_) rfl (by kernel_rfl) (by kernel_rfl) (by kernel_rfl) (fun _ _ _ h => h) (Or.inl ⟨by rfl, ?_⟩) (by assumption) ?_
      rotate_left
      · (intro w' hSw; (try dsimp only at hSw); go_simp <;> (with_reducible rfl))
      try simp only [Act.put, List.setIfInBounds_toArray, List.set_cons_zero, List.set_cons_succ]
      refine wpAnyH_take (i := 7) (oi := ⟨some 33, _, _, _, _, _⟩) (v := ?_) rfl (by kernel_rfl) (by kernel_rfl) (by kernel_rfl) (fun _ _ _ h => h) (Or.inl ⟨by rfl, ?_⟩) (by assumption) ?_
      rotate_left
      · (intro w' hSw; (try dsimp only at hSw); go_simp <;> (with_reducible rfl))
      try simp only [Act.put, List.setIfInBounds_toArray, List.set_cons_zero, List.set_cons_succ]
      refine wpAnyH_take (i := 8) (oi := ⟨some 34, _, _, _, _, _⟩) (v := ?_) rfl (by kernel_rfl) (by kernel_rfl) (by kernel_rfl) (fun _ _ _ h => h) (Or.inl ⟨by rfl, ?_⟩) (by assumption) ?_
      rotate_left
      · (intro w' hSw; (try dsimp only at hSw); go_simp <;> (with_reducible rfl))
      try simp only [Act.put, List.setIfInBounds_toArray, List.set_cons_zero, List.set_cons_succ]
      refine wpAnyH_take (i := 9) (oi := ⟨some 35, _, _, _, _, _⟩) (v := ?_) rfl (by kernel_rfl) (by kernel_rfl) (by kernel_rfl) (fun _ _ _ h => h) (Or.inl ⟨by rfl, ?_⟩) (by assumption) ?_
      rotate_left
      · (intro w' hSw; (try dsimp only at hSw); go_simp <;> (with_reducible rfl))
      try simp only [Act.put, List.setIfInBounds_toArray, List.set_cons_zero, List.set_cons_succ]
      refine wpAnyH_take (i := 10) (oi := ⟨some 36, _, _, _, _, _⟩) (v := ?_) rfl (by kernel_rfl) (by kernel_rfl) (by kernel_rfl) (fun _ _ _ h => h) (Or.inl ⟨by rfl, ?_⟩) (by assumption) ?_
      rotate_left
      · (intro w' hSw; (try dsimp only at hSw); go_simp <;> (with_reducible rfl))
      try simp only [Act.put, List.setIfInBounds_toArray, List.set_cons_zero, List.set_cons_succ]
      refine wpAnyH_take (i := 11) (oi := ⟨some 37, _, _, _, _, _⟩) (v := ?_) rfl (by kernel_rfl) (by kernel_rfl) (by kernel_rfl) (fun _ _ _ h => h) (Or.inl ⟨by rfl, ?_⟩) (by assumption) ?_
      rotate_left
      · (intro w' hSw; (try dsimp only at hSw); go_simp <;> (with_reducible rfl))
      try simp only [Act.put, List.setIfInBounds_toArray, List.set_cons_zero, List.set_cons_succ]
      refine wpAnyH_ready (rs := [12]) (by kernel_rfl) (by simp) ?_
      refine AllReadyH.cons (o := ⟨some 38, _, _, _, _, _⟩) rfl (fun K' hK => ?_) AllReadyH.nil
      go_simp
      go_at_call 81
      refine (HTK.out _).mono ?_
      rintro e_ w_2 ⟨rfl, hb_2⟩
      replace HO := hide (HO.out.below hb_2)
      replace HG := hide (HG.out.below hb_2)
      replace HX := hide (HX.out.below hb_2)
      replace HB := hide (HB.out.trans (hb_2.mono (Nat.le_of_lt hX)))
      replace hX := Nat.lt_of_lt_of_le hX hb_2.size
      replace hG := Nat.lt_of_lt_of_le hG hb_2.size
      clear hb_2
      go_wp2_with fail
      refine hK.out _ _ ⟨HPC.out _ HG.out, HX.out.at_ 0, HX.out.at_ 1⟩ (fun hHeld => ?_)
      clear hK K'
      try simp only [Act.put, List.setIfInBounds_toArray, List.set_cons_zero, List.set_cons_succ]
      refine wpAnyH_ready (rs := [13]) (by kernel_rfl) (by simp) ?_
      refine AllReadyH.cons (o := ⟨some 39, _, _, _, _, _⟩) rfl (fun K' hK => ?_) AllReadyH.nil
      go_simp
      obtain ⟨g9, hg9⟩ : ∃ z, w_2.heap.size = z := ⟨_, rfl⟩
      obtain ⟨w_3, hw_3⟩ : ∃ z : World, z = w_2.alloc (.cells #[.int .i64 s] 3) := ⟨_, rfl⟩
      try rw [← hw_3]
      have HP := hide (show IntsAt w_3 0 (some ⟨g9, 0, none⟩) 1 (fun _ => s) by rw [hw_3]; exact one_cell w_2 s _ g9 hg9)
      have hc_3 : Below w_2.heap.size w_2 w_3 := by rw [hw_3]; exact (Below.refl _ _).alloc (Nat.le_refl _) _
      clear hw_3
      replace HO := hide (HO.out.below hc_3)
      replace HG := hide (HG.out.below hc_3)
      replace HX := hide (HX.out.below hc_3)
      replace HB := hide (HB.out.trans (hc_3.mono (Nat.le_of_lt hX)))
      replace hX := Nat.lt_of_lt_of_le hX hc_3.size
      replace hG := Nat.lt_of_lt_of_le hG hc_3.size
      clear hc_3
      try simp only [hg9]
      clear hg9
      refine hK.out _ _ ⟨HPC.out _ HG.out, HX.out.at_ 0, HX.out.at_ 1⟩ (fun hHeld => ?_)
      clear hK K'
      try simp only [Act.put, List.setIfInBounds_toArray, List.set_cons_zero, List.set_cons_succ]
      refine wpAnyH_ready (rs := [14]) (by kernel_rfl) (by simp) ?_
      refine AllReadyH.cons (o := ⟨some 40, _, _, _, _, _⟩) rfl (fun K' hK => ?_) AllReadyH.nil
      refine step_append_twoI _ rfl (.tmp 26) (.tmp 39) rfl (b2 + 1) 0 (.slice As2 (N + k) cs2) (N + k) _ rfl HO.out g9 1 1 _ rfl HP.out (by omega) (by omega) ?_
      intro v9 w_4 ho9 hgr9 hat9
      obtain ⟨As3, cs3, rfl, hcs3, -⟩ := ho9.form
      have hv1n : (Value.slice As3 (N + k + 1) cs3).ownBlock ≠ some b10 := hat9.elim (fun e => by rw [e]; exact hv1) (fun e => by rw [e]; intro e2; injection e2 with e2; omega)
      have hbo : ∀ z, (Value.slice As2 (N + k) cs2).ownBlock = some z → b2 + 1 ≤ z := fun z e => (ownV_at (w' := w_3) (v' := Value.slice As2 (N + k) cs2) HO.out e).1
      replace HG := hide (show Box _ b10 105 #[.int .i64 x.re, .int .i64 x.im] from (hgr9.block b10 hG (fun e => hv1 e.symm)).trans HG.out)
      replace HX := hide (show Box _ b2 58 #[.int .i64 (2 * (c : Int)), .int .i64 gn, .slice (some ⟨b, o, none⟩) n d] from (hgr9.block b2 hX (fun e => by have := hbo _ e.symm; omega)).trans HX.out)
      replace HB := hide (HB.out.grown hgr9 (by omega) (fun z e => by have := hbo _ e; omega))
      have HO2 := hide (ho9.congr HNF.out)
      clear hgr9 hat9 ho9 hbo HP HO
      refine hK.out _ _ ⟨HPC.out _ HG.out, HX.out.at_ 0, HX.out.at_ 1⟩ (fun hHeld => ?_)
      clear hK K'
      try simp only [Act.put, List.setIfInBounds_toArray, List.set_cons_zero, List.set_cons_succ]
      refine wpAnyH_take (i := 15) (oi := ⟨some 3, _, _, _, _, _⟩) (v := ?_) rfl (by kernel_rfl) (by kernel_rfl) (by kernel_rfl) (fun _ _ _ h => h) (Or.inl ⟨by rfl, ?_⟩) (by assumption) ?_
      rotate_left
      · (intro w' hSw; (try dsimp only at hSw); go_simp <;> (with_reducible rfl))
      try simp only [Act.put, List.setIfInBounds_toArray, List.set_cons_zero, List.set_cons_succ]
      refine wpAnyH_done (by kernel_rfl) ?_ _
      clear hHeld HPC HNF HOF HTK
      go_wp2_with fail
      go_roundw
      case rel => exact ⟨k + 1, by omega, by go_num, HO2, hv1n, HG, HX, HB⟩
      case measure => simp [Go.RowKit.intOf]; omega
end Go.Proofs.Ytceohaeebdhmjaa
/- nearest of the reference. -/
namespace Go.Proofs.Ytceohaeebdhmjaa
open Go Go.RowKit Go.Lib Go.Shelf
set_option maxHeartbeats 4000000 in
set_option maxRecDepth 100000 in
theorem BitsOfB_new (j c : Nat) (w : World) (hj : j < 64) (h1 : 1 ≤ c) (h6 : c ≤ 6) :
    Calls Try.prog 104 #[.int .i64 (j : Int), .int .i64 (c : Int)] w fun e w' => ∃ g, e = .returned (.slice (some ⟨g, 0, none⟩) c c) ∧ IntsAt w' w.heap.size (some ⟨g, 0, none⟩) c (labF c j) ∧ Below w.heap.size w w' := by
  obtain ⟨i0, hi, hz0, hz1, hz2⟩ := info_parts intInfo
  have hmk := fun W => run_make_row (P := Try.prog) 59 3 i0 (.int .i64 0) Try.underlying59 hi hz0 hz1 rfl .i64 .i64 c (by rw [hz2]; omega) (by omega) W
  clear hi hz0 hz1 hz2
  have HL0 := hide (fun k p y => (show p = c - 1 - k → j / 2 ^ k = y → k < c → ((y % 2 : Nat) : Int) = labF c j p from fun e h hk => by
    unfold labF
    rw [show c - 1 - p = k by omega, h]))
  have HLS := hide (fun k p => (show p = c - 1 - k → k < c → setF (fun q => if c - k ≤ q then labF c j q else 0) p (labF c j p) = fun q => if c - (k + 1) ≤ q then labF c j q else 0 from fun e hk => by
    funext q
    show (if q = p then labF c j p else if c - k ≤ q then labF c j q else 0) = if c - (k + 1) ≤ q then labF c j q else 0
    by_cases h : q = p
    · subst h; rw [if_pos rfl, if_pos (by omega)]
    · rw [if_neg h]
      by_cases h2 : c - k ≤ q
      · rw [if_pos h2, if_pos (by omega)]
      · rw [if_neg h2, if_neg (by omega)]))
  obtain ⟨F, hF⟩ : ∃ z, labF c j = z := ⟨_, rfl⟩
  simp only [hF] at HL0 HLS ⊢
  clear hF
  go_enter Try.func104, Try.ntmps104
  go_upto_region 2 with fail
  obtain ⟨gL, hgL⟩ : ∃ z, w.heap.size = z := ⟨_, rfl⟩
  obtain ⟨w3, hw3⟩ : ∃ q' : World, q' = w.alloc (.cells (madeCells #[.int .i64 0] c) 3) := ⟨_, rfl⟩
  try rw [← hw3]
  have HL := hide (show OwnInts w3 gL (.slice (some ⟨gL, 0, none⟩) c c) c (fun p => if c - 0 ≤ p then F p else 0) by rw [hw3]; exact (ownS_zeros w gL gL c (by omega) hgL.symm (by unfold maxLen; omega)).congr fun p hp => (if_neg (by omega)).symm)
  have HB := hide (show Below gL w w3 by rw [hw3, ← hgL]; (repeat (first | (with_reducible exact Below.refl _ _) | (with_reducible refine Go.below_drewN ?_ _) | (with_reducible refine Below.drew ?_) | (with_reducible refine Below.alloc ?_ (by first | exact Nat.le_refl _ | (simp; done) | (simp; omega) | omega) _) | (with_reducible refine Below.setCell ?_ (by first | exact Nat.le_refl _ | (simp; done) | (simp; omega) | omega) _))))
  clear hw3
  try simp only [hgL]
  go_wp2_with fail
  go_loopw [0, 6] (fun n i wr => ∃ (k y : Nat) (z : Int), k ≤ c ∧ Hid (j / 2 ^ k = y) ∧ y < 64 ∧ Hid (z = (c : Int) - 1 - (k : Int)) ∧ n = .int .i64 (y : Int) ∧ i = .int .i64 z ∧ Hid (OwnInts wr gL (.slice (some ⟨gL, 0, none⟩) c c) c (fun q => if c - k ≤ q then F q else 0)) ∧ Hid (Below gL w wr)) (fun _ i _ => (Go.RowKit.intOf i + 1).toNat)
  case atStart => exact ⟨0, j, _, Nat.zero_le _, hide (by simp), hj, hide (by omega), rfl, rfl, HL, HB⟩
  case round =>
    clear HL HB
    obtain ⟨k, y, z, hk, HY, hy, HZ, rfl, rfl, HL, HB⟩ := hrel
    obtain ⟨wB, rfl⟩ : ∃ x : World, x = wr := ⟨_, rfl⟩
    by_cases hlt : k < c
    · obtain ⟨p, rfl⟩ : ∃ p : Nat, z = (p : Int) := ⟨z.toNat, by have := HZ.out; omega⟩
      have hpk : p = c - 1 - k := by have := HZ.out; omega
      have hpc : p < c := by omega
      have hpz : (p : Int) < (c : Int) := by omega
      obtain ⟨v, hv⟩ : ∃ z, F p = z := ⟨_, rfl⟩
      have q0 : ((y % 2 : Nat) : Int) = v := (HL0.out k p y hpk HY.out hlt).trans hv
      have q1 : Int.tmod (y : Int) 2 = v := by rw [Int.tmod_eq_emod_of_nonneg (by omega)]; omega
      have q2 : (y : Int) % 2 = v := by omega
      have q3 : Int.tdiv (y : Int) 2 = ((y / 2 : Nat) : Int) := by rw [Int.tdiv_eq_ediv_of_nonneg (by omega)]; omega
      have q4 : (y : Int) / 2 = ((y / 2 : Nat) : Int) := by omega
      obtain ⟨y2, hy2⟩ : ∃ z, y / 2 = z := ⟨_, rfl⟩
      rw [hy2] at q3 q4
      have HY2 := hide (show j / 2 ^ (k + 1) = y2 by rw [Nat.pow_succ, ← Nat.div_div_eq_div_mul, HY.out, hy2])
      have hy64 : y2 < 64 := by omega
      have c0 := HL.out.cellAt hpc
      have k0 := HL.out.frozen p
      have HL5 := hide (HL.out.set_ p v)
      rw [← hv, HLS.out k p hpk hlt, hv] at HL5
      have HB5 := hide (HB.out.setCell (p := ⟨gL, p, none⟩) (Nat.le_refl _) (.int .i64 v))
      clear hv HL HB q0 hy2 hpk
      go_wp2_with fail
      go_roundw
      case rel => exact ⟨k + 1, y2, (p : Int) - 1, by omega, HY2, hy64, hide (by have := HZ.out; omega), by first | rfl | (simp; done) | go_num, by go_num, HL5, HB5⟩
      case measure => simp [Go.RowKit.intOf] <;> omega
    · have hkc : k = c := by omega
      have hz0 : ¬ (0 : Int) ≤ z := by have := HZ.out; omega
      have hI := HL.out.atG (lo := gL) (Nat.le_refl _)
      have HI := hide (show IntsAt wB gL (some ⟨gL, 0, none⟩) c F from hI.congr fun q _ => if_pos (by omega))
      clear hI HL HL0 HLS HY HZ hkc hlt
      go_wp2_with fail
      go_ret
      exact ⟨gL, rfl, (by first | exact HI.out | (rw [hgL]; exact HI.out)), hgL ▸ HB.out⟩
set_option maxHeartbeats 8000000 in
set_option maxRecDepth 100000 in
theorem BitsOfR_new (c n : Nat) (v : Int) (w : World) (h1 : 1 ≤ c) (h3 : c ≤ 3) (hn : n < 2 ^ c) (hb : ∀ q, q < n → lvl c (labF c q) ≠ v) (ha : lvl c (labF c n) = v) :
    Calls Try.prog 103 #[.int .i64 (c : Int), .int .i64 v] w fun e w' => ∃ g, e = .returned (.tuple #[.slice (some ⟨g, 0, none⟩) c c, .int .i64 0]) ∧ IntsAt w' w.heap.size (some ⟨g, 0, none⟩) c (labF c n) ∧ Below w.heap.size w w' := by
  have HPW := hide (fun W => powerR_any c W (by omega))
  have hN8 : 2 ^ c ≤ 8 := (Nat.pow_le_pow_right (by decide) h3 : 2 ^ c ≤ 2 ^ 3)
  obtain ⟨N, hN⟩ : ∃ N : Nat, 2 ^ c = N := ⟨_, rfl⟩
  rw [hN] at hn hN8 HPW
  have HBI := hide (fun j W (h : j < 64) => BitsOfB_new j c W h h1 (by omega))
  have HLV := hide (fun b j W hI => LevelOfR_any b 0 c c (labF c j) W h1 h3 (Nat.le_refl _) (by omega) (fun p _ => labF_bit c j p) hI)
  have HBB := hide hb
  have HAA := hide ha
  have hwi := fun W => within_any (c : Int) 1 3 W
  simp only [withinB_yes (show 1 ≤ (c : Int) ∧ (c : Int) ≤ 3 by omega)] at hwi
  have HB := hide (Below.refl w.heap.size w)
  clear hb ha hN
  go_enter Try.func103, Try.ntmps103
  go_wp2_with (go_at_call 31; refine (hwi _).mono ?_; rintro e_ v_ ⟨rfl, rfl⟩)
  go_loopw [6] (fun i wr => ∃ k : Nat, k ≤ n ∧ i = .int .i64 (k : Int) ∧ Hid (Below w.heap.size w wr)) (fun i _ => n - (Go.RowKit.intOf i).toNat)
  case atStart => exact ⟨0, Nat.zero_le _, rfl, HB⟩
  case round =>
    clear HB hwi
    obtain ⟨k, hk, rfl, HB⟩ := hrel
    obtain ⟨wA, rfl⟩ : ∃ x : World, x = wr := ⟨_, rfl⟩
    have hkN : (k : Int) < (N : Int) := by omega
    go_wp2_with fail
    refine (HPW.out _).mono ?_
    rintro e_ v_ ⟨rfl, rfl⟩
    go_wp2_with fail
    refine (HBI.out k _ (by omega)).mono ?_
    rintro e_ w2 ⟨g, rfl, hI, hb2⟩
    have HN := hide (hI.weak HB.out.size)
    have HI := hide (hI.weak (Nat.zero_le _))
    replace HB := hide (HB.out.trans (hb2.mono HB.out.size))
    clear hI hb2
    go_wp2_with fail
    have HLK := hide (HLV.out g k _ HI.out)
    obtain ⟨y, hy⟩ : ∃ z, lvl c (labF c k) = z := ⟨_, rfl⟩
    rw [hy] at HLK
    by_cases hlt : k < n
    · have hne : y ≠ v := hy ▸ HBB.out k hlt
      have t1 : (y == v) = false := by simpa using hne
      clear hy
      refine HLK.out.mono ?_
      rintro e_ v_ ⟨rfl, rfl⟩
      go_wp2_with fail
      go_roundw
      case rel => exact ⟨k + 1, by omega, by go_num, HB⟩
      case measure => simp [Go.RowKit.intOf] <;> omega
    · have hkn : k = n := by omega
      subst hkn
      have hyv : y = v := hy.symm.trans HAA.out
      subst hyv
      clear hy
      refine HLK.out.mono ?_
      rintro e_ v_ ⟨rfl, rfl⟩
      go_wp2_with fail
      go_ret2
      exact ⟨g, rfl, HN.out, HB.out⟩
set_option maxHeartbeats 8000000 in
set_option maxRecDepth 100000 in
theorem nearest_any (p g : Int) (c : Nat) (w : World) (hp : -100000000 ≤ p ∧ p ≤ 100000000) (hg : 1 ≤ g ∧ g ≤ 10000000) (h1 : 1 ≤ c) (h3 : c ≤ 3) :
    Calls Try.prog 80 #[.int .i64 (c : Int), .int .i64 g, .int .i64 p] w fun e w' => ∃ gb, e = .returned (.slice (some ⟨gb, 0, none⟩) c c) ∧ IntsAt w' w.heap.size (some ⟨gb, 0, none⟩) c (hardP p g c) ∧ Below w.heap.size w w' := by
  have hN8 : 2 ^ c ≤ 8 := (Nat.pow_le_pow_right (by decide) h3 : 2 ^ c ≤ 2 ^ 3)
  have hN1 : 2 ≤ 2 ^ c := (Nat.pow_le_pow_right (by decide) h1 : 2 ^ 1 ≤ 2 ^ c)
  have HPW := hide (fun W => powerR_any c W (by omega))
  obtain ⟨k1, k2, -⟩ := hard_level hp hg h1 h3
  have HBO := hide (fun W => BitsOfR_new c (hardJ p g c) _ W h1 h3 k1 (fun q hq e => by have := one_lev h1 h3 (Nat.lt_trans hq k1) k1 (e.trans k2.symm); omega) k2)
  have HR := hide (fun (t : Nat) (h : t ≤ 2 ^ c) => (show -7 ≤ rbL (distL p g) (1 - ((2 ^ c : Nat) : Int)) t ∧ rbL (distL p g) (1 - ((2 ^ c : Nat) : Int)) t ≤ 7 from by
    obtain ⟨⟨s, e1, e2⟩, -⟩ := rbL_facts (D := distL p g) (lo := 1 - ((2 ^ c : Nat) : Int)) (t := t)
    rw [e2]; omega))
  have HS := hide (fun t : Nat => (show rbL (distL p g) (1 - ((2 ^ c : Nat) : Int)) (t + 1) = if distL p g (1 - ((2 ^ c : Nat) : Int) + 2 * (t : Int)) < distL p g (rbL (distL p g) (1 - ((2 ^ c : Nat) : Int)) t) then 1 - ((2 ^ c : Nat) : Int) + 2 * (t : Int) else rbL (distL p g) (1 - ((2 ^ c : Nat) : Int)) t from rfl))
  have HS0 := hide (show rbL (distL p g) (1 - ((2 ^ c : Nat) : Int)) 0 = 1 - ((2 ^ c : Nat) : Int) from rfl)
  have HD := hide (fun v => (show ((p - g * v).natAbs : Int) = distL p g v from rfl))
  have hhp : hardP p g c = labF c (hardJ p g c) := rfl
  rw [hhp]
  obtain ⟨R, hR⟩ : ∃ z, labF c (hardJ p g c) = z := ⟨_, rfl⟩
  rw [hR] at HBO ⊢
  obtain ⟨N, hN⟩ : ∃ z, 2 ^ c = z := ⟨_, rfl⟩
  simp only [hN] at HBO HPW HR HS HS0 hN8 hN1
  obtain ⟨B, hB⟩ : ∃ z, rbL (distL p g) (1 - (N : Int)) = z := ⟨_, rfl⟩
  simp only [hB] at HBO HR HS HS0
  obtain ⟨D, hD⟩ : ∃ z, distL p g = z := ⟨_, rfl⟩
  simp only [hD] at HS HD
  have HG := hide (fun v (h : -7 ≤ v ∧ v ≤ 7) => gl_le (v := v) hg h)
  have q0 : IntKind.i64.wrap (1 - (N : Int)) = 1 - (N : Int) := IntWalk.i64_in _ (by omega)
  clear hB hD hR hN hhp k1 k2
  go_enter Try.func80, Try.ntmps80
  go_wp2_with (go_at_call 102; refine (HPW.out _).mono ?_; rintro e_ v_ ⟨rfl, rfl⟩)
  clear q0
  go_loopw [7, 8] (fun b l wr => ∃ t : Nat, t ≤ N ∧ b = .int .i64 (B t) ∧ l = .int .i64 (1 - (N : Int) + 2 * (t : Int)) ∧ w = wr) (fun _ l _ => 2 * N + 1 - (Go.RowKit.intOf l + (N : Int)).toNat)
  case atStart => exact ⟨0, Nat.zero_le _, by rw [HS0.out], by congr 1; omega, rfl⟩
  case round =>
    obtain ⟨t, ht, rfl, rfl, rfl⟩ := hrel
    by_cases hlt : t < N
    case neg =>
      obtain rfl : N = t := by omega
      have hltz : ¬ (1 - (N : Int) + 2 * (N : Int)) < (N : Int) := by omega
      clear HR HS HS0 HD HG
      go_wp2_with (go_at_call 102; refine (HPW.out _).mono ?_; rintro e_ v_ ⟨rfl, rfl⟩)
      refine (HBO.out _).mono ?_
      rintro e_ w_2 ⟨gb, rfl, hI, hb⟩
      go_wp2_with fail
      go_ret
      first | exact ⟨gb, rfl, hI, hb⟩ | exact ⟨hI, hb⟩
    have hr := HR.out t ht
    have hs := HS.out t
    have HL := hide (show 1 - (N : Int) + 2 * ((t + 1 : Nat) : Int) = 1 - (N : Int) + 2 * (t : Int) + 2 by omega)
    have hL7 : -7 ≤ 1 - (N : Int) + 2 * (t : Int) ∧ 1 - (N : Int) + 2 * (t : Int) ≤ 7 := by omega
    have hltz : 1 - (N : Int) + 2 * (t : Int) < (N : Int) := by omega
    obtain ⟨L, hL⟩ : ∃ z, 1 - (N : Int) + 2 * (t : Int) = z := ⟨_, rfl⟩
    obtain ⟨b, hb⟩ : ∃ z, B t = z := ⟨_, rfl⟩
    rw [hL] at hs HL hL7 hltz
    rw [hb] at hs hr
    rw [hL, hb]
    have HLT := hide hL
    have z1 := HG.out L hL7
    have z2 := HG.out b hr
    have hd1 := HD.out L
    have hd2 := HD.out b
    obtain ⟨x, hx⟩ : ∃ z, g * L = z := ⟨_, rfl⟩
    obtain ⟨y, hy⟩ : ∃ z, g * b = z := ⟨_, rfl⟩
    rw [hx] at z1 hd1
    rw [hy] at z2 hd2
    have q1 : IntKind.i64.wrap (g * L) = x := by rw [hx]; exact IntWalk.i64_in _ (by omega)
    have q2 : IntKind.i64.wrap (g * b) = y := by rw [hy]; exact IntWalk.i64_in _ (by omega)
    have q3 : IntKind.i64.wrap (p - x) = p - x := IntWalk.i64_in _ (by omega)
    have q4 : IntKind.i64.wrap (p - y) = p - y := IntWalk.i64_in _ (by omega)
    have q5 : IntKind.i64.wrap (L + 2) = L + 2 := IntWalk.i64_in _ (by omega)
    have HZ1 := hide (fun W1 => sizeB_any (p - x) W1 (by omega))
    have HZ2 := hide (fun W1 => sizeB_any (p - y) W1 (by omega))
    rw [hd1] at HZ1
    rw [hd2] at HZ2
    obtain ⟨u, hu⟩ : ∃ z, D L = z := ⟨_, rfl⟩
    obtain ⟨v, hv⟩ : ∃ z, D b = z := ⟨_, rfl⟩
    rw [hu] at HZ1 hs
    rw [hv] at HZ2 hs
    clear hu hv hd1 hd2 hx hy z1 z2 hL hb hr HR HS HS0 HD HG HBO hL7
    by_cases huv : u < v
    case pos =>
      have HT := hide (show B (t + 1) = L by rw [hs, if_pos huv])
      clear hs
      go_wp2_with (first
        | (go_at_call 102; refine (HPW.out _).mono ?_; rintro e_ v_ ⟨rfl, rfl⟩)
        | (go_at_call 71; first | (refine (HZ1.out _).mono ?_; rintro e_ v_ ⟨rfl, hv_⟩; have hv_ := hv_.symm; subst hv_) | (refine (HZ2.out _).mono ?_; rintro e_ v_ ⟨rfl, hv_⟩; have hv_ := hv_.symm; subst hv_)))
      go_roundw
      case rel => exact ⟨t + 1, by omega, by rw [HT.out], by rw [HL.out], (by first | rfl | trivial)⟩
      case measure => have := HLT.out; simp [Go.RowKit.intOf]; omega
    have HT := hide (show B (t + 1) = b by rw [hs, if_neg huv])
    clear hs
    go_wp2_with (first
      | (go_at_call 102; refine (HPW.out _).mono ?_; rintro e_ v_ ⟨rfl, rfl⟩)
      | (go_at_call 71; first | (refine (HZ1.out _).mono ?_; rintro e_ v_ ⟨rfl, hv_⟩; have hv_ := hv_.symm; subst hv_) | (refine (HZ2.out _).mono ?_; rintro e_ v_ ⟨rfl, hv_⟩; have hv_ := hv_.symm; subst hv_)))
    go_roundw
    case rel => exact ⟨t + 1, by omega, by rw [HT.out], by rw [HL.out], (by first | rfl | trivial)⟩
    case measure => have := HLT.out; simp [Go.RowKit.intOf]; omega
end Go.Proofs.Ytceohaeebdhmjaa
/- Hard of the reference. -/
namespace Go.Proofs.Ytceohaeebdhmjaa
open Go Go.RowKit Go.Lib
set_option maxHeartbeats 8000000 in
set_option maxRecDepth 100000 in
theorem HardR_any (gn : Int) (c : Nat) (A : Option Addr) (n d : Nat) (F : Nat → Gau) (w : World) (hc1 : 1 ≤ c) (hc3 : c ≤ 3) (hn : n ≤ 200) (hg : 1 ≤ gn ∧ gn ≤ 10000000) (hF : ∀ j, j < n → (F j).Within 100000000) (hI : GausAt w 0 A n F) :
    Calls Try.prog 41 #[.agg #[.int .i64 (2 * (c : Int)), .int .i64 gn, .slice A n d]] w fun e w' => ∃ v, e = .returned v ∧ OwnInts w' (w.heap.size + 1) v (n * (2 * c)) (bopF c (fun p => hardP p gn c) F) ∧ Below w.heap.size w w' := by
  have HI := hide hI
  have HF := hide hF
  obtain ⟨B, hB⟩ : ∃ z, (fun p => hardP p gn c) = z := ⟨_, rfl⟩
  have HT := hide (show ∀ (p : Int) (W : World), -100000000 ≤ p ∧ p ≤ 100000000 → Calls Try.prog 80 #[.int .i64 (c : Int), .int .i64 gn, .int .i64 p] W fun e w' => ∃ gb, e = .returned (.slice (some ⟨gb, 0, none⟩) c c) ∧ IntsAt w' W.heap.size (some ⟨gb, 0, none⟩) c (B p) ∧ Below W.heap.size W w' from fun p W hp => by rw [← hB]; exact nearest_any p gn c W hp hg hc1 hc3)
  rw [hB]
  have q2 : (2 * (c : Int)).tdiv 2 = (c : Int) := by rw [Int.tdiv_eq_ediv_of_nonneg (by omega)]; omega
  have q3 : IntKind.i64.wrap (c : Int) = (c : Int) := IntWalk.i64_in _ (by omega)
  clear hI hF hB
  go_enter Try.func41, Try.ntmps41
  go_upto_region 1 with fail
  obtain ⟨w1, hw1⟩ : ∃ q : World, q = w.alloc (.cells #[.int .i64 (2 * (c : Int)), .int .i64 gn, .slice A n d] 58) := ⟨_, rfl⟩
  try rw [← hw1]
  have HX := hide (show Box w1 w.heap.size 58 #[.int .i64 (2 * (c : Int)), .int .i64 gn, .slice A n d] by rw [hw1]; exact Box.made rfl)
  have HB := hide (show Below w.heap.size w w1 by rw [hw1]; (repeat (first | (with_reducible exact Below.refl _ _) | (with_reducible refine Go.below_drewN ?_ _) | (with_reducible refine Below.drew ?_) | (with_reducible refine Below.alloc ?_ (by first | exact Nat.le_refl _ | (simp; done) | (simp; omega) | omega) _) | (with_reducible refine Below.setCell ?_ (by first | exact Nat.le_refl _ | (simp; done) | (simp; omega) | omega) _))))
  clear hw1
  obtain ⟨b2, hb2⟩ : ∃ z, w.heap.size = z := ⟨_, rfl⟩
  simp only [hb2] at HX HB ⊢
  go_wp2_with fail
  go_loopw [3, 4] (fun v i wr => ∃ j : Nat, j ≤ n ∧ i = .int .i64 (j : Int) ∧ Hid (OwnInts wr (b2 + 1) v (j * (2 * c)) (bopF c B F)) ∧ Hid (Box wr b2 58 #[.int .i64 (2 * (c : Int)), .int .i64 gn, .slice A n d]) ∧ Hid (Below b2 w wr)) (fun _ i _ => n - (Go.RowKit.intOf i).toNat)
  case atStart => exact ⟨0, Nat.zero_le _, rfl, hide (by rw [Nat.zero_mul]; exact OwnInts.nil_ _ _ _), HX, HB⟩
  case round =>
    clear HX HB
    obtain ⟨j, hj, rfl, HO, HX, HB⟩ := hrel
    obtain ⟨wA, rfl⟩ : ∃ x : World, x = wr := ⟨_, rfl⟩
    obtain ⟨c0, c1, c2, hlz⟩ := rec_cells HX.out
    by_cases hlt : j < n
    case neg =>
      obtain rfl : n = j := by omega
      have hltz : ¬ (n : Int) < (n : Int) := by omega
      obtain ⟨As, cs, rfl, hcs, -⟩ := HO.out.form
      clear HT HF HI
      go_wp2_with fail
      go_ret
      first | exact ⟨_, rfl, HO.out, HB.out⟩ | exact ⟨HO.out, HB.out⟩ | (subst hb2; first | exact ⟨_, rfl, HO.out, HB.out⟩ | exact ⟨HO.out, HB.out⟩)
    have hltz : (j : Int) < (n : Int) := by omega
    obtain ⟨b, o, rfl, -, hbw, y0, y1⟩ := (HI.out.below (by rw [hb2]; exact HB.out)) j hlt
    have hFj := HF.out j hlt
    obtain ⟨As, cs, rfl, hcs, -⟩ := HO.out.form
    have HOF := hide (fun r (hr : r < 2 * c) => bopF_at B F (j := j) hr)
    obtain ⟨x, hx⟩ : ∃ z, F j = z := ⟨_, rfl⟩
    rw [hx] at y0 y1 hFj HOF
    clear hx
    obtain ⟨N, hN⟩ : ∃ N, j * (2 * c) = N := ⟨_, rfl⟩
    have HN := hide (show (j + 1) * (2 * c) = N + 2 * c by rw [Nat.add_mul, Nat.one_mul, hN])
    rw [hN] at HO HOF
    have hN9 : N ≤ 1200 := by rw [← hN]; exact Nat.le_trans (Nat.mul_le_mul (show j ≤ 200 by omega) (show 2 * c ≤ 6 by omega)) (by decide)
    simp only [hN]
    clear hN
    have hsA := HX.out.lt
    go_upto_region 6 with (go_at_call 79; refine (parts_any x _).mono ?_; rintro e_ w_p ⟨rfl, hp_2⟩; replace HO := hide (HO.out.below hp_2); replace HX := hide (HX.out.below hp_2); replace HB := hide (HB.out.trans (hp_2.mono (Nat.le_of_lt hsA))); replace hsA := Nat.lt_of_lt_of_le hsA hp_2.size; clear hp_2)
    clear c0 c1 c2 hlz y0 y1
    obtain ⟨b10, hb10⟩ : ∃ z, w_p.heap.size = z := ⟨_, rfl⟩
    obtain ⟨w3, hw3⟩ : ∃ q : World, q = w_p.alloc (.cells #[.int .i64 x.re, .int .i64 x.im] 105) := ⟨_, rfl⟩
    try rw [← hw3]
    simp only [hb10]
    have HG := hide (show Box w3 b10 105 #[.int .i64 x.re, .int .i64 x.im] by rw [hw3]; exact Box.made hb10.symm)
    have hc3 : Below w_p.heap.size w_p w3 := by rw [hw3]; (repeat (first | (with_reducible exact Below.refl _ _) | (with_reducible refine Go.below_drewN ?_ _) | (with_reducible refine Below.drew ?_) | (with_reducible refine Below.alloc ?_ (by first | exact Nat.le_refl _ | (simp; done) | (simp; omega) | omega) _) | (with_reducible refine Below.setCell ?_ (by first | exact Nat.le_refl _ | (simp; done) | (simp; omega) | omega) _)))
    replace HO := hide (HO.out.below hc3)
    replace HX := hide (HX.out.below hc3)
    replace HB := hide (HB.out.trans (hc3.mono (by omega)))
    have h10 : b10 < w3.heap.size := HG.out.lt
    clear hw3 hc3
    have hvb : ∀ k, (Value.slice As N cs).ownBlock = some k → k < w3.heap.size := fun k hk => (ownV_at (w' := w3) (v' := Value.slice As N cs) HO.out hk).2
    have HVB := hide hvb
    have hs3 : b2 + 1 ≤ w3.heap.size := by omega
    have hq3 : w3.heap.size ≤ w3.heap.size := Nat.le_refl _
    clear hvb
    refine wp_region_held_drew (S := fun w' => w'.cell? ⟨b10, 0, none⟩ = some (.int .i64 x.re) ∧ w'.cell? ⟨b10, 1, none⟩ = some (.int .i64 x.im) ∧ w'.cell? ⟨b2, 0, none⟩ = some (.int .i64 (2 * (c : Int))) ∧ w'.cell? ⟨b2, 1, none⟩ = some (.int .i64 gn)) (by kernel_rfl) ⟨HG.out.at_ 0, HG.out.at_ 1, HX.out.at_ 0, HX.out.at_ 1⟩ (fun hHeld => ?_)
    obtain ⟨w_1, hw_1⟩ : ∃ q : World, q = w3.drew := ⟨_, rfl⟩
    rw [← hw_1] at hHeld ⊢
    have hc_1 : Below w3.heap.size w3 w_1 := by rw [hw_1]; exact (Below.refl _ _).drew
    clear hw_1
    replace HG := hide (HG.out.below hc_1)
    replace HO := hide (HO.out.below hc_1)
    replace HX := hide (HX.out.below hc_1)
    replace HB := hide (HB.out.trans (hc_1.mono (Nat.le_trans (Nat.le_succ _) hs3)))
    replace hs3 := Nat.le_trans hs3 hc_1.size
    replace hq3 := Nat.le_trans hq3 hc_1.size
    clear hc_1
    refine wpAnyH_take (i := 0) (oi := ⟨some 22, _, _, _, _, _⟩) (v := ?_) rfl (by kernel_rfl) (by kernel_rfl) (by kernel_rfl) (fun _ _ _ h => h) (Or.inl ⟨by rfl, ?_⟩) (by assumption) ?_
    rotate_left
    · (intro w' hSw; (try dsimp only at hSw); go_simp <;> (with_reducible rfl))
    try simp only [Act.put, List.setIfInBounds_toArray, List.set_cons_zero, List.set_cons_succ]
    refine wpAnyH_take (i := 1) (oi := ⟨some 23, _, _, _, _, _⟩) (v := ?_) rfl (by kernel_rfl) (by kernel_rfl) (by kernel_rfl) (fun _ _ _ h => h) (Or.inl ⟨by rfl, ?_⟩) (by assumption) ?_
    rotate_left
    · (intro w' hSw; (try dsimp only at hSw); go_simp <;> (with_reducible rfl))
    try simp only [Act.put, List.setIfInBounds_toArray, List.set_cons_zero, List.set_cons_succ]
    refine wpAnyH_take (i := 2) (oi := ⟨some 24, _, _, _, _, _⟩) (v := ?_) rfl (by kernel_rfl) (by kernel_rfl) (by kernel_rfl) (fun _ _ _ h => h) (Or.inl ⟨by rfl, ?_⟩) (by assumption) ?_
    rotate_left
    · (intro w' hSw; (try dsimp only at hSw); go_simp <;> (with_reducible rfl))
    try simp only [Act.put, List.setIfInBounds_toArray, List.set_cons_zero, List.set_cons_succ]
    refine wpAnyH_take (i := 3) (oi := ⟨some 25, _, _, _, _, _⟩) (v := ?_) rfl (by kernel_rfl) (by kernel_rfl) (by kernel_rfl) (fun _ _ _ h => h) (Or.inl ⟨by rfl, ?_⟩) (by assumption) ?_
    rotate_left
    · (intro w' hSw; (try dsimp only at hSw); go_simp <;> (with_reducible rfl))
    try simp only [Act.put, List.setIfInBounds_toArray, List.set_cons_zero, List.set_cons_succ]
    refine wpAnyH_take (i := 4) (oi := ⟨some 26, _, _, _, _, _⟩) (v := ?_) rfl (by kernel_rfl) (by kernel_rfl) (by kernel_rfl) (fun _ _ _ h => h) (Or.inl ⟨by rfl, ?_⟩) (by assumption) ?_
    rotate_left
    · (intro w' hSw; (try dsimp only at hSw); go_simp <;> (with_reducible rfl))
    try simp only [Act.put, List.setIfInBounds_toArray, List.set_cons_zero, List.set_cons_succ]
    refine wpAnyH_take (i := 5) (oi := ⟨some 27, _, _, _, _, _⟩) (v := ?_) rfl (by kernel_rfl) (by kernel_rfl) (by kernel_rfl) (fun _ _ _ h => h) (Or.inl ⟨by rfl, ?_⟩) (by assumption) ?_
    rotate_left
    · (intro w' hSw; (try dsimp only at hSw); go_simp <;> (with_reducible rfl))
    try simp only [Act.put, List.setIfInBounds_toArray, List.set_cons_zero, List.set_cons_succ]
    refine wpAnyH_take (i := 6) (oi := ⟨some 28, _, _, _, _, _⟩) (v := ?_) rfl (by kernel_rfl) (by kernel_rfl) (by kernel_rfl) (fun _ _ _ h => h) (Or.inl ⟨by rfl, ?_⟩) (by assumption) ?_
    rotate_left
    · (intro w' hSw; (try dsimp only at hSw); go_simp <;> (with_reducible rfl))
    try simp only [Act.put, List.setIfInBounds_toArray, List.set_cons_zero, List.set_cons_succ]
    refine wpAnyH_take (i := 8) (oi := ⟨some 30, _, _, _, _, _⟩) (v := ?_) rfl (by kernel_rfl) (by kernel_rfl) (by kernel_rfl) (fun _ _ _ h => h) (Or.inl ⟨by rfl, ?_⟩) (by assumption) ?_
    rotate_left
    · (intro w' hSw; (try dsimp only at hSw); go_simp <;> (with_reducible rfl))
    try simp only [Act.put, List.setIfInBounds_toArray, List.set_cons_zero, List.set_cons_succ]
    refine wpAnyH_take (i := 9) (oi := ⟨some 31, _, _, _, _, _⟩) (v := ?_) rfl (by kernel_rfl) (by kernel_rfl) (by kernel_rfl) (fun _ _ _ h => h) (Or.inl ⟨by rfl, ?_⟩) (by assumption) ?_
    rotate_left
    · (intro w' hSw; (try dsimp only at hSw); go_simp <;> (with_reducible rfl))
    try simp only [Act.put, List.setIfInBounds_toArray, List.set_cons_zero, List.set_cons_succ]
    refine wpAnyH_take (i := 10) (oi := ⟨some 32, _, _, _, _, _⟩) (v := ?_) rfl (by kernel_rfl) (by kernel_rfl) (by kernel_rfl) (fun _ _ _ h => h) (Or.inl ⟨by rfl, ?_⟩) (by assumption) ?_
    rotate_left
    · (intro w' hSw; (try dsimp only at hSw); go_simp <;> (with_reducible rfl))
    try simp only [Act.put, List.setIfInBounds_toArray, List.set_cons_zero, List.set_cons_succ]
    refine wpAnyH_take (i := 11) (oi := ⟨some 33, _, _, _, _, _⟩) (v := ?_) rfl (by kernel_rfl) (by kernel_rfl) (by kernel_rfl) (fun _ _ _ h => h) (Or.inl ⟨by rfl, ?_⟩) (by assumption) ?_
    rotate_left
    · (intro w' hSw; (try dsimp only at hSw); go_simp <;> (with_reducible rfl))
    try simp only [Act.put, List.setIfInBounds_toArray, List.set_cons_zero, List.set_cons_succ]
    refine wpAnyH_take (i := 12) (oi := ⟨some 34, _, _, _, _, _⟩) (v := ?_) rfl (by kernel_rfl) (by kernel_rfl) (by kernel_rfl) (fun _ _ _ h => h) (Or.inl ⟨by rfl, ?_⟩) (by assumption) ?_
    rotate_left
    · (intro w' hSw; (try dsimp only at hSw); go_simp <;> (with_reducible rfl))
    try simp only [Act.put, List.setIfInBounds_toArray, List.set_cons_zero, List.set_cons_succ]
    refine wpAnyH_take (i := 13) (oi := ⟨some 35, _, _, _, _, _⟩) (v := ?_) rfl (by kernel_rfl) (by kernel_rfl) (by kernel_rfl) (fun _ _ _ h => h) (Or.inl ⟨by rfl, ?_⟩) (by assumption) ?_
    rotate_left
    · (intro w' hSw; (try dsimp only at hSw); go_simp <;> (with_reducible rfl))
    try simp only [Act.put, List.setIfInBounds_toArray, List.set_cons_zero, List.set_cons_succ]
    refine wpAnyH_take (i := 14) (oi := ⟨some 36, _, _, _, _, _⟩) (v := ?_) rfl (by kernel_rfl) (by kernel_rfl) (by kernel_rfl) (fun _ _ _ h => h) (Or.inl ⟨by rfl, ?_⟩) (by assumption) ?_
    rotate_left
    · (intro w' hSw; (try dsimp only at hSw); go_simp <;> (with_reducible rfl))
    try simp only [Act.put, List.setIfInBounds_toArray, List.set_cons_zero, List.set_cons_succ]
    refine wpAnyH_ready (rs := [7]) (by kernel_rfl) (by simp) ?_
    refine AllReadyH.cons (o := ⟨some 29, _, _, _, _, _⟩) rfl (fun K' hK => ?_) AllReadyH.nil
    go_simp
    go_at_call 80
    refine (HT.out x.re _ hFj.re).mono ?_
    rintro e_ w_2 ⟨gA1, rfl, hiA1, hb_2⟩
    have HA1 := hide hiA1
    have hnA1 : w_1.heap.size ≤ gA1 ∧ gA1 < w_2.heap.size := by obtain ⟨b9, o9, e9, q1, q2, -⟩ := hiA1 0 (by omega); injection e9 with e9; injection e9 with e9; subst e9; exact ⟨q1, q2⟩
    have hmA1 : w3.heap.size ≤ gA1 := Nat.le_trans hq3 hnA1.1
    clear hiA1
    replace HG := hide (HG.out.below hb_2)
    replace HO := hide (HO.out.below hb_2)
    replace HX := hide (HX.out.below hb_2)
    replace HB := hide (HB.out.trans (hb_2.mono (Nat.le_trans (Nat.le_succ _) hs3)))
    replace hs3 := Nat.le_trans hs3 hb_2.size
    replace hq3 := Nat.le_trans hq3 hb_2.size
    clear hb_2
    go_wp2_with fail
    refine hK.out _ _ ⟨HG.out.at_ 0, HG.out.at_ 1, HX.out.at_ 0, HX.out.at_ 1⟩ (fun hHeld => ?_)
    clear hK K'
    try simp only [Act.put, List.setIfInBounds_toArray, List.set_cons_zero, List.set_cons_succ]
    refine wpAnyH_ready (rs := [15]) (by kernel_rfl) (by simp) ?_
    refine AllReadyH.cons (o := ⟨some 37, _, _, _, _, _⟩) rfl (fun K' hK => ?_) AllReadyH.nil
    go_simp
    go_at_call 80
    refine (HT.out x.im _ hFj.im).mono ?_
    rintro e_ w_3 ⟨gA2, rfl, hiA2, hb_3⟩
    have HA2 := hide hiA2
    have hnA2 : w_2.heap.size ≤ gA2 ∧ gA2 < w_3.heap.size := by obtain ⟨b9, o9, e9, q1, q2, -⟩ := hiA2 0 (by omega); injection e9 with e9; injection e9 with e9; subst e9; exact ⟨q1, q2⟩
    have hmA2 : w3.heap.size ≤ gA2 := Nat.le_trans hq3 hnA2.1
    clear hiA2
    replace HG := hide (HG.out.below hb_3)
    replace HO := hide (HO.out.below hb_3)
    replace HX := hide (HX.out.below hb_3)
    replace HA1 := hide (HA1.out.below hb_3)
    replace HB := hide (HB.out.trans (hb_3.mono (Nat.le_trans (Nat.le_succ _) hs3)))
    replace hs3 := Nat.le_trans hs3 hb_3.size
    replace hq3 := Nat.le_trans hq3 hb_3.size
    clear hb_3
    go_wp2_with fail
    refine hK.out _ _ ⟨HG.out.at_ 0, HG.out.at_ 1, HX.out.at_ 0, HX.out.at_ 1⟩ (fun hHeld => ?_)
    clear hK K'
    try simp only [Act.put, List.setIfInBounds_toArray, List.set_cons_zero, List.set_cons_succ]
    refine wpAnyH_take (i := 16) (oi := ⟨some 6, _, _, _, _, _⟩) (v := ?_) rfl (by kernel_rfl) (by kernel_rfl) (by kernel_rfl) (fun _ _ _ h => h) (Or.inl ⟨by rfl, ?_⟩) (by assumption) ?_
    rotate_left
    · (intro w' hSw; (try dsimp only at hSw); go_simp <;> (with_reducible rfl))
    try simp only [Act.put, List.setIfInBounds_toArray, List.set_cons_zero, List.set_cons_succ]
    refine wpAnyH_take (i := 17) (oi := ⟨some 7, _, _, _, _, _⟩) (v := ?_) rfl (by kernel_rfl) (by kernel_rfl) (by kernel_rfl) (fun _ _ _ h => h) (Or.inl ⟨by rfl, ?_⟩) (by assumption) ?_
    rotate_left
    · (intro w' hSw; (try dsimp only at hSw); go_simp <;> (with_reducible rfl))
    try simp only [Act.put, List.setIfInBounds_toArray, List.set_cons_zero, List.set_cons_succ]
    refine wpAnyH_done (by kernel_rfl) ?_ _
    clear hHeld
    replace HA1 := hide (HA1.out.weak (Nat.zero_le _))
    replace HA2 := hide (HA2.out.weak (Nat.zero_le _))
    have hbig : gA1 < w_3.heap.size ∧ gA2 < w_3.heap.size := by omega
    have hv1 : (Value.slice As N cs).ownBlock ≠ some gA1 := fun e => by have := HVB.out _ e; omega
    have hv2 : (Value.slice As N cs).ownBlock ≠ some gA2 := fun e => by have := HVB.out _ e; omega
    clear HG HVB HT hnA1 hnA2 h10 hs3
    go_wp2_with fail
    go_loopw [3, 8] (fun v z wr => ∃ i : Nat, i ≤ c ∧ z = .int .i64 (i : Int) ∧ Hid (OwnInts wr (b2 + 1) v (N + 2 * i) (bopF c B F)) ∧ v.ownBlock ≠ some gA1 ∧ v.ownBlock ≠ some gA2 ∧ gA1 < wr.heap.size ∧ gA2 < wr.heap.size ∧ Hid (IntsAt wr 0 (some ⟨gA1, 0, none⟩) c (B x.re)) ∧ Hid (IntsAt wr 0 (some ⟨gA2, 0, none⟩) c (B x.im)) ∧ Hid (Box wr b2 58 #[.int .i64 (2 * (c : Int)), .int .i64 gn, .slice (some ⟨b, o, none⟩) n d]) ∧ Hid (Below b2 w wr)) (fun _ z _ => c - (Go.RowKit.intOf z).toNat)
    case atStart => exact ⟨0, Nat.zero_le _, rfl, HO, hv1, hv2, hbig.1, hbig.2, HA1, HA2, HX, HB⟩
    case round =>
      clear HO hv1 hv2 hbig HA1 HA2 HX HB
      obtain ⟨i, hi, rfl, HO, hv1, hv2, hg1, hg2, HA1, HA2, HX, HB⟩ := hrel
      obtain ⟨wB, rfl⟩ : ∃ x : World, x = wr := ⟨_, rfl⟩
      obtain ⟨As2, cs2, rfl, hcs2, -⟩ := HO.out.form
      obtain ⟨c0, c1, c2, hlz⟩ := rec_cells HX.out
      by_cases hlt2 : i < c
      case neg =>
        obtain rfl : c = i := by omega
        have hltz2 : ¬ (c : Int) < (c : Int) := by omega
        clear HOF
        go_wp2_with fail
        go_roundw
        case rel => exact ⟨j + 1, by omega, by go_num, by rw [HN.out]; exact HO, HX, HB⟩
        case measure => simp [Go.RowKit.intOf]; omega
      have hltz2 : (i : Int) < (c : Int) := by omega
      obtain ⟨r, hr⟩ : ∃ r, B x.re i = r := ⟨_, rfl⟩
      obtain ⟨m, hm⟩ : ∃ m, B x.im i = m := ⟨_, rfl⟩
      have HC1 := hide (fun W1 (h : IntsAt W1 0 (some ⟨gA1, 0, none⟩) c (B x.re)) => (by have := intsAt_cellK h hlt2; rw [hr, Nat.zero_add] at this; exact this : W1.cell? ⟨gA1, i, none⟩ = some (.int .i64 r)))
      have HC2 := hide (fun W1 (h : IntsAt W1 0 (some ⟨gA2, 0, none⟩) c (B x.im)) => (by have := intsAt_cellK h hlt2; rw [hm, Nat.zero_add] at this; exact this : W1.cell? ⟨gA2, i, none⟩ = some (.int .i64 m)))
      have HNF := hide (show ∀ q, q < N + 2 * i + 2 → catF (N + 2 * i) (bopF c B F) (fun z => if z = 0 then r else m) q = bopF c B F q from fun q hq => by
        unfold catF
        by_cases e : q < N + 2 * i
        · rw [if_pos e]
        · rw [if_neg e]
          obtain e2 | e2 : q - (N + 2 * i) = 0 ∨ q - (N + 2 * i) = 1 := by omega
          · rw [e2]
            show r = _
            rw [show q = N + 2 * i by omega, HOF.out (2 * i) (by omega), show 2 * i % 2 = 0 by omega, show 2 * i / 2 = i by omega, ← hr]; rfl
          · rw [e2]
            show m = _
            rw [show q = N + (2 * i + 1) by omega, HOF.out (2 * i + 1) (by omega), show (2 * i + 1) % 2 = 1 by omega, show (2 * i + 1) / 2 = i by omega, ← hm]; rfl)
      clear hr hm
      go_upto_region 10 with fail
      clear c0 c1 c2 hlz
      have hX := HX.out.lt
      refine wp_region_held_drew (S := fun w' => w'.cell? ⟨gA1, i, none⟩ = some (.int .i64 r) ∧ w'.cell? ⟨gA2, i, none⟩ = some (.int .i64 m)) (by kernel_rfl) ⟨HC1.out _ HA1.out, HC2.out _ HA2.out⟩ (fun hHeld => ?_)
      obtain ⟨w_4, hw_4⟩ : ∃ q : World, q = wB.drew := ⟨_, rfl⟩
      rw [← hw_4] at hHeld ⊢
      have hc_4 : Below wB.heap.size wB w_4 := by rw [hw_4]; exact (Below.refl _ _).drew
      clear hw_4
      replace HO := hide (HO.out.below hc_4)
      replace HA1 := hide (HA1.out.below hc_4)
      replace HA2 := hide (HA2.out.below hc_4)
      replace HX := hide (HX.out.below hc_4)
      replace HB := hide (HB.out.trans (hc_4.mono (Nat.le_of_lt hX)))
      replace hX := Nat.lt_of_lt_of_le hX hc_4.size
      replace hg1 := Nat.lt_of_lt_of_le hg1 hc_4.size
      replace hg2 := Nat.lt_of_lt_of_le hg2 hc_4.size
      clear hc_4
      refine wpAnyH_take (i := 0) (oi := ⟨some 45, _, _, _, _, _⟩) (v := ?_) rfl (by kernel_rfl) (by kernel_rfl) (by kernel_rfl) (fun _ _ _ h => h) (Or.inl ⟨by rfl, ?_⟩) (by assumption) ?_
      rotate_left
      · (intro w' hSw; (try dsimp only at hSw); go_simp <;> (with_reducible rfl))
      try simp only [Act.put, List.setIfInBounds_toArray, List.set_cons_zero, List.set_cons_succ]
      refine wpAnyH_take (i := 1) (oi := ⟨some 46, _, _, _, _, _⟩) (v := ?_) rfl (by kernel_rfl) (by kernel_rfl) (by kernel_rfl) (fun _ _ _ h => h) (Or.inl ⟨by rfl, ?_⟩) (by assumption) ?_
      rotate_left
      · (intro w' hSw; (try dsimp only at hSw); go_simp <;> (with_reducible rfl))
      try simp only [Act.put, List.setIfInBounds_toArray, List.set_cons_zero, List.set_cons_succ]
      refine wpAnyH_take (i := 2) (oi := ⟨some 47, _, _, _, _, _⟩) (v := ?_) rfl (by kernel_rfl) (by kernel_rfl) (by kernel_rfl) (fun _ _ _ h => h) (Or.inl ⟨by rfl, ?_⟩) (by assumption) ?_
      rotate_left
      · (intro w' hSw; (try dsimp only at hSw); go_simp <;> (with_reducible rfl))
      try simp only [Act.put, List.setIfInBounds_toArray, List.set_cons_zero, List.set_cons_succ]
      refine wpAnyH_take (i := 3) (oi := ⟨some 48, _, _, _, _, _⟩) (v := ?_) rfl (by kernel_rfl) (by kernel_rfl) (by kernel_rfl) (fun _ _ _ h => h) (Or.inl ⟨by rfl, ?_⟩) (by assumption) ?_
      rotate_left
      · (intro w' hSw; (try dsimp only at hSw); go_simp <;> (with_reducible rfl))
      try simp only [Act.put, List.setIfInBounds_toArray, List.set_cons_zero, List.set_cons_succ]
      refine wpAnyH_take (i := 4) (oi := ⟨some 49, _, _, _, _, _⟩) (v := ?_) rfl (by kernel_rfl) (by kernel_rfl) (by kernel_rfl) (fun _ _ _ h => h) (Or.inl ⟨by rfl, ?_⟩) (by assumption) ?_
      rotate_left
      · (intro w' hSw; (try dsimp only at hSw); go_simp <;> (with_reducible rfl))
      try simp only [Act.put, List.setIfInBounds_toArray, List.set_cons_zero, List.set_cons_succ]
      refine wpAnyH_take (i := 5) (oi := ⟨some 50, _, _, _, _, _⟩) (v := ?_) rfl (by kernel_rfl) (by kernel_rfl) (by kernel_rfl) (fun _ _ _ h => h) (Or.inl ⟨by rfl, ?_⟩) (by assumption) ?_
      rotate_left
      · (intro w' hSw; (try dsimp only at hSw); go_simp <;> (with_reducible rfl))
      try simp only [Act.put, List.setIfInBounds_toArray, List.set_cons_zero, List.set_cons_succ]
      refine wpAnyH_take (i := 6) (oi := ⟨some 51, _, _, _, _, _⟩) (v := ?_) rfl (by kernel_rfl) (by kernel_rfl) (by kernel_rfl) (fun _ _ _ h => h) (Or.inl ⟨by rfl, ?_⟩) (by assumption) ?_
      rotate_left
      · (intro w' hSw; (try dsimp only at hSw); go_simp <;> (with_reducible rfl))
      try simp only [Act.put, List.setIfInBounds_toArray, List.set_cons_zero, List.set_cons_succ]
      refine wpAnyH_take (i := 7) (oi := ⟨some 52, _, _, _, _, _⟩) (v := ?_) rfl (by kernel_rfl) (by kernel_rfl) (by kernel_rfl) (fun _ _ _ h => h) (Or.inl ⟨by rfl, ?_⟩) (by assumption) ?_
      rotate_left
      · (intro w' hSw; (try dsimp only at hSw); go_simp <;> (with_reducible rfl))
      try simp only [Act.put, List.setIfInBounds_toArray, List.set_cons_zero, List.set_cons_succ]
      refine wpAnyH_take (i := 8) (oi := ⟨some 53, _, _, _, _, _⟩) (v := ?_) rfl (by kernel_rfl) (by kernel_rfl) (by kernel_rfl) (fun _ _ _ h => h) (Or.inl ⟨by rfl, ?_⟩) (by assumption) ?_
      rotate_left
      · (intro w' hSw; (try dsimp only at hSw); go_simp <;> (with_reducible rfl))
      try simp only [Act.put, List.setIfInBounds_toArray, List.set_cons_zero, List.set_cons_succ]
      refine wpAnyH_ready (rs := [9]) (by kernel_rfl) (by simp) ?_
      refine AllReadyH.cons (o := ⟨some 54, _, _, _, _, _⟩) rfl (fun K' hK => ?_) AllReadyH.nil
      go_simp
      obtain ⟨g9, hg9⟩ : ∃ z, w_4.heap.size = z := ⟨_, rfl⟩
      obtain ⟨w_5, hw_5⟩ : ∃ z : World, z = w_4.alloc (.cells #[.int .i64 r, .int .i64 m] 3) := ⟨_, rfl⟩
      try rw [← hw_5]
      have HP := hide (show IntsAt w_5 0 (some ⟨g9, 0, none⟩) 2 (fun z => if z = 0 then r else m) by rw [hw_5]; exact two_cells w_4 r m _ g9 hg9)
      have hc_5 : Below w_4.heap.size w_4 w_5 := by rw [hw_5]; exact (Below.refl _ _).alloc (Nat.le_refl _) _
      clear hw_5
      replace HO := hide (HO.out.below hc_5)
      replace HA1 := hide (HA1.out.below hc_5)
      replace HA2 := hide (HA2.out.below hc_5)
      replace HX := hide (HX.out.below hc_5)
      replace HB := hide (HB.out.trans (hc_5.mono (Nat.le_of_lt hX)))
      replace hX := Nat.lt_of_lt_of_le hX hc_5.size
      replace hg1 := Nat.lt_of_lt_of_le hg1 hc_5.size
      replace hg2 := Nat.lt_of_lt_of_le hg2 hc_5.size
      clear hc_5
      try simp only [hg9]
      clear hg9
      refine hK.out _ _ ⟨HC1.out _ HA1.out, HC2.out _ HA2.out⟩ (fun hHeld => ?_)
      clear hK K'
      try simp only [Act.put, List.setIfInBounds_toArray, List.set_cons_zero, List.set_cons_succ]
      refine wpAnyH_ready (rs := [10]) (by kernel_rfl) (by simp) ?_
      refine AllReadyH.cons (o := ⟨some 55, _, _, _, _, _⟩) rfl (fun K' hK => ?_) AllReadyH.nil
      refine step_append_twoI _ rfl (.tmp 45) (.tmp 54) rfl (b2 + 1) 0 (.slice As2 (N + 2 * i) cs2) (N + 2 * i) _ rfl HO.out g9 2 2 _ rfl HP.out (by omega) (by omega) ?_
      intro v9 w_6 ho9 hgr9 hat9
      obtain ⟨As3, cs3, rfl, hcs3, -⟩ := ho9.form
      have hv1n : (Value.slice As3 (N + 2 * i + 2) cs3).ownBlock ≠ some gA1 := hat9.elim (fun e => by rw [e]; exact hv1) (fun e => by rw [e]; intro e2; injection e2 with e2; omega)
      have hv2n : (Value.slice As3 (N + 2 * i + 2) cs3).ownBlock ≠ some gA2 := hat9.elim (fun e => by rw [e]; exact hv2) (fun e => by rw [e]; intro e2; injection e2 with e2; omega)
      have hbo : ∀ z, (Value.slice As2 (N + 2 * i) cs2).ownBlock = some z → b2 + 1 ≤ z := fun z e => (ownV_at (w' := w_5) (v' := Value.slice As2 (N + 2 * i) cs2) HO.out e).1
      replace HA1 := hide (HA1.out.grownI hgr9 (fun b o e => by injection e with e; injection e with e; rw [← e]; exact hv1))
      replace HA2 := hide (HA2.out.grownI hgr9 (fun b o e => by injection e with e; injection e with e; rw [← e]; exact hv2))
      replace HX := hide (show Box _ b2 58 #[.int .i64 (2 * (c : Int)), .int .i64 gn, .slice (some ⟨b, o, none⟩) n d] from (hgr9.block b2 hX (fun e => by have := hbo _ e.symm; omega)).trans HX.out)
      replace HB := hide (HB.out.grown hgr9 (by omega) (fun z e => by have := hbo _ e; omega))
      have HO2 := hide (ho9.congr HNF.out)
      replace hg1 := Nat.lt_of_lt_of_le hg1 hgr9.size
      replace hg2 := Nat.lt_of_lt_of_le hg2 hgr9.size
      clear hgr9 hat9 ho9 hbo HP HO
      refine hK.out _ _ ⟨HC1.out _ HA1.out, HC2.out _ HA2.out⟩ (fun hHeld => ?_)
      clear hK K'
      try simp only [Act.put, List.setIfInBounds_toArray, List.set_cons_zero, List.set_cons_succ]
      refine wpAnyH_take (i := 11) (oi := ⟨some 3, _, _, _, _, _⟩) (v := ?_) rfl (by kernel_rfl) (by kernel_rfl) (by kernel_rfl) (fun _ _ _ h => h) (Or.inl ⟨by rfl, ?_⟩) (by assumption) ?_
      rotate_left
      · (intro w' hSw; (try dsimp only at hSw); go_simp <;> (with_reducible rfl))
      try simp only [Act.put, List.setIfInBounds_toArray, List.set_cons_zero, List.set_cons_succ]
      refine wpAnyH_done (by kernel_rfl) ?_ _
      clear hHeld HC1 HC2 HNF HOF
      go_wp2_with fail
      go_roundw
      case rel => exact ⟨i + 1, by omega, by go_num, by rw [show N + 2 * (i + 1) = N + 2 * i + 2 by omega]; exact HO2, hv1n, hv2n, hg1, hg2, HA1, HA2, HX, HB⟩
      case measure => simp [Go.RowKit.intOf]; omega
end Go.Proofs.Ytceohaeebdhmjaa
/- hardBits and Hard of the code. -/
namespace Go.Proofs.Ytceohaeebdhmjaa
open Go Go.RowKit Go.Shelf Go.Lib
attribute [local go_sem] Oper.semAt_some
/-- What lies in memory between two rounds: T is the best number so far, its distance, its level. -/
structure HInv (w0 W : World) (B b3 b4 b7 b8 b9 lo c : Nat) (p g : Int) (k : Nat) (T : Nat × Int × Int) : Prop where
  part : Box W b3 3 #[.int .i64 p]
  gain : Box W b4 3 #[.int .i64 g]
  near : ∃ A n d, Box W b7 59 #[.slice A n d] ∧ (0 < k → ∃ x, A = some ⟨x, 0, none⟩ ∧ n = c ∧ d = c ∧ IntsAt W lo (some ⟨x, 0, none⟩) c (labF c T.1))
  least : Box W b8 3 #[.int .i64 T.2.1]
  level : Box W b9 3 #[.int .i64 T.2.2]
  below : Below B w0 W
section
variable {w0 W Y : World} {B b3 b4 b7 b8 b9 lo c k : Nat} {p g : Int} {T : Nat × Int × Int}
theorem HInv.roundly {row : Option Nat} (h : HInv w0 W B b3 b4 b7 b8 b9 lo c p g k T) (hg : W.grownBy Y row) (hB : B ≤ b3) (hr : ∀ r, row = some r → B ≤ r ∧ ∃ o : Obj, W.heap[r]? = some o ∧ o.isCells = false) : HInv w0 Y B b3 b4 b7 b8 b9 lo c p g k T := by
  obtain ⟨A, n, d, h1, h2⟩ := h.near
  exact ⟨h.part.roundly hg fun r e => (hr r e).2, h.gain.roundly hg fun r e => (hr r e).2, ⟨A, n, d, h1.roundly hg fun r e => (hr r e).2, fun hk => by obtain ⟨x, e1, e2, e3, h3⟩ := h2 hk; exact ⟨x, e1, e2, e3, h3.roundly hg fun r e => (hr r e).2⟩⟩, h.least.roundly hg fun r e => (hr r e).2, h.level.roundly hg fun r e => (hr r e).2, h.below.grown hg (by have := h.part.lt; omega) fun r e => (hr r e).1⟩
theorem HInv.under (h : HInv w0 W B b3 b4 b7 b8 b9 lo c p g k T) (hb : Below W.heap.size W Y) (hB : B ≤ b3) : HInv w0 Y B b3 b4 b7 b8 b9 lo c p g k T := by
  obtain ⟨A, n, d, h1, h2⟩ := h.near
  exact ⟨h.part.below hb, h.gain.below hb, ⟨A, n, d, h1.below hb, fun hk => by obtain ⟨x, e1, e2, e3, h3⟩ := h2 hk; exact ⟨x, e1, e2, e3, h3.below hb⟩⟩, h.least.below hb, h.level.below hb, h.below.trans (hb.mono (by have := h.part.lt; omega))⟩
theorem HInv.put (h : HInv w0 W B b3 b4 b7 b8 b9 lo c p g k T) {x : Nat} (hI : IntsAt W lo (some ⟨x, 0, none⟩) c (labF c k)) (u v : Int) (h37 : b3 < b7) (h47 : b4 < b7) (h78 : b7 < b8) (h89 : b8 < b9) (h9l : b9 < lo) (hB : B ≤ b3) :
    HInv w0 (((W.setCell ⟨b7, 0, none⟩ (.slice (some ⟨x, 0, none⟩) c c)).setCell ⟨b8, 0, none⟩ (.int .i64 u)).setCell ⟨b9, 0, none⟩ (.int .i64 v)) B b3 b4 b7 b8 b9 lo c p g (k + 1) (k, u, v) := by
  obtain ⟨A, n, d, h1, -⟩ := h.near
  have o7 := fun {b : Nat} {t : TypeId} {cs : Array Value} {W : World} (hb : Box W b t cs) (hne : b ≠ b7) (u : Value) => hb.other (p := ⟨b7, 0, none⟩) hne u
  have o8 := fun {b : Nat} {t : TypeId} {cs : Array Value} {W : World} (hb : Box W b t cs) (hne : b ≠ b8) (u : Value) => hb.other (p := ⟨b8, 0, none⟩) hne u
  have o9 := fun {b : Nat} {t : TypeId} {cs : Array Value} {W : World} (hb : Box W b t cs) (hne : b ≠ b9) (u : Value) => hb.other (p := ⟨b9, 0, none⟩) hne u
  refine ⟨o9 (o8 (o7 h.part (by omega) _) (by omega) _) (by omega) _, o9 (o8 (o7 h.gain (by omega) _) (by omega) _) (by omega) _, ⟨_, c, c, o9 (o8 (h1.oneSput _) (by omega) _) (by omega) _, fun _ => ⟨x, rfl, rfl, rfl, ?_⟩⟩, o9 ((o7 h.least (by omega) _).oneSput _) (by omega) _, (o8 (o7 h.level (by omega) _) (by omega) _).oneSput _, ?_⟩
  · exact ((hI.other (p := ⟨b7, 0, none⟩) (by show b7 < lo; omega) _).other (p := ⟨b8, 0, none⟩) (by show b8 < lo; omega) _).other (p := ⟨b9, 0, none⟩) (by show b9 < lo; omega) _
  · exact ((h.below.setCell (p := ⟨b7, 0, none⟩) (by show B ≤ b7; omega) _).setCell (p := ⟨b8, 0, none⟩) (by show B ≤ b8; omega) _).setCell (p := ⟨b9, 0, none⟩) (by show B ≤ b9; omega) _
theorem HInv.stay (h : HInv w0 W B b3 b4 b7 b8 b9 lo c p g k T) (hk : 0 < k) : HInv w0 W B b3 b4 b7 b8 b9 lo c p g (k + 1) T := by
  obtain ⟨A, n, d, h1, h2⟩ := h.near
  exact ⟨h.part, h.gain, ⟨A, n, d, h1, fun _ => h2 hk⟩, h.least, h.level, h.below⟩
theorem HInv.cells (h : HInv w0 W B b3 b4 b7 b8 b9 lo c p g k T) : ∃ A n d, W.cell? ⟨b3, 0, none⟩ = some (.int .i64 p) ∧ W.cell? ⟨b4, 0, none⟩ = some (.int .i64 g) ∧ W.cell? ⟨b7, 0, none⟩ = some (.slice A n d) ∧ W.cell? ⟨b8, 0, none⟩ = some (.int .i64 T.2.1) ∧ W.cell? ⟨b9, 0, none⟩ = some (.int .i64 T.2.2) ∧
    W.frozen? ⟨b7, 0, none⟩ = false ∧ W.frozen? ⟨b8, 0, none⟩ = false ∧ W.frozen? ⟨b9, 0, none⟩ = false ∧ b7 < W.heap.size ∧ b8 < W.heap.size ∧ b9 < W.heap.size ∧ b3 < W.heap.size ∧ b4 < W.heap.size := by
  obtain ⟨A, n, d, h1, -⟩ := h.near
  exact ⟨A, n, d, h.part.at_ 0, h.gain.at_ 0, h1.at_ 0, h.least.at_ 0, h.level.at_ 0, h1.free 0, h.least.free 0, h.level.free 0, h1.lt, h.least.lt, h.level.lt, h.part.lt, h.gain.lt⟩
end
set_option maxHeartbeats 16000000 in
set_option maxRecDepth 100000 in
theorem hardBits_any (p g : Int) (c : Nat) (w : World) (hp : -100000000 ≤ p ∧ p ≤ 100000000) (hg : 1 ≤ g ∧ g ≤ 10000000) (h1 : 1 ≤ c) (h3 : c ≤ 3) :
    Calls Try.prog 73 #[.int .i64 p, .int .i64 g, .int .i64 (c : Int)] w fun e w' => ∃ gb, e = .returned (.slice (some ⟨gb, 0, none⟩) c c) ∧ IntsAt w' w.heap.size (some ⟨gb, 0, none⟩) c (hardP p g c) ∧ Below w.heap.size w w' := by
  have HD := hide (fun j => distF_le (p := p) (g := g) (c := c) (j := j) hp hg h1 h3)
  have HDE := hide (show ∀ j, ((p - g * lvl c (labF c j)).natAbs : Int) = distF p g c j from fun _ => rfl)
  have HJ := hide (show ∀ k, hbJ (distF p g c) (fun j => lvl c (labF c j)) (k + 1) = if distF p g c k < (hbJ (distF p g c) (fun j => lvl c (labF c j)) k).2.1 ∨ (distF p g c k = (hbJ (distF p g c) (fun j => lvl c (labF c j)) k).2.1 ∧ lvl c (labF c k) < (hbJ (distF p g c) (fun j => lvl c (labF c j)) k).2.2) then (k, distF p g c k, lvl c (labF c k)) else hbJ (distF p g c) (fun j => lvl c (labF c j)) k from fun _ => rfl)
  have HJ0 := hide (show hbJ (distF p g c) (fun j => lvl c (labF c j)) 0 = (0, 9223372036854775807, 0) from rfl)
  have HHP := hide (show hardP p g c = labF c (hbJ (distF p g c) (fun j => lvl c (labF c j)) (2 ^ c)).1 from rfl)
  obtain ⟨H, hH⟩ : ∃ z, hbJ (distF p g c) (fun j => lvl c (labF c j)) = z := ⟨_, rfl⟩
  simp only [hH] at HJ HJ0 HHP
  rw [HHP.out]
  obtain ⟨D, hD⟩ : ∃ z, distF p g c = z := ⟨_, rfl⟩
  simp only [hD] at HD HDE HJ
  have HPW := hide (show 0 < 2 ^ c from Nat.pow_pos (by decide))
  obtain ⟨R, hR⟩ : ∃ z, labF c (H (2 ^ c)).1 = z := ⟨_, rfl⟩
  rw [hR]
  have HR := hide hR
  clear hH hD hR HHP
  refine (callsIn_wide (n := 9)).1 ?_
  refine callsIn_of_wp_marks Try.func73 rfl trivial ?_ rfl
  refine wpIn_wide.2 ?_
  simp only [Try.ntmps73, List.size_toArray, List.length_cons, List.length_nil, Nat.reduceAdd, Nat.reduceSub, Array.replicate_succ, Array.replicate_zero, List.push_toArray, List.append_toArray, List.nil_append, List.cons_append]
  go_upto_region 1 with fail
  obtain ⟨w1, hw1⟩ : ∃ q : World, q = (w.alloc (.cells #[.int .i64 p] 3)).alloc (.cells #[.int .i64 g] 3) := ⟨_, rfl⟩
  try rw [← hw1]
  have HX3 := hide (show Box w1 w.heap.size 3 #[.int .i64 p] by rw [hw1]; exact (Box.made rfl).alloc _)
  have HX4 := hide (show Box w1 (w.heap.size + 1) 3 #[.int .i64 g] by rw [hw1]; exact Box.made (by simp))
  have HB := hide (show Below w.heap.size w w1 by rw [hw1]; (repeat (first | (with_reducible exact Below.refl _ _) | (with_reducible refine Go.below_drewN ?_ _) | (with_reducible refine Below.drew ?_) | (with_reducible refine Below.alloc ?_ (by first | exact Nat.le_refl _ | (simp; done) | (simp; omega) | omega) _) | (with_reducible refine Below.setCell ?_ (by first | exact Nat.le_refl _ | (simp; done) | (simp; omega) | omega) _))))
  have hs1 : w1.heap.size = w.heap.size + 2 := by rw [hw1]; simp
  clear hw1
  obtain ⟨b3, hb3⟩ : ∃ z, w.heap.size = z := ⟨_, rfl⟩
  obtain ⟨b4, hb4⟩ : ∃ z, b3 + 1 = z := ⟨_, rfl⟩
  simp only [hb3, hb4] at HX3 HX4 HB hs1 ⊢
  have HS1 := hide hs1
  clear hs1
  go_upto_region 3 with fail
  have hs1 := HS1.out
  obtain ⟨b7, hb7⟩ : ∃ z, w1.heap.size = z := ⟨_, rfl⟩
  obtain ⟨b8, hb8⟩ : ∃ z, b7 + 1 = z := ⟨_, rfl⟩
  obtain ⟨b9, hb9⟩ : ∃ z, b8 + 1 = z := ⟨_, rfl⟩
  obtain ⟨w2, hw2⟩ : ∃ q : World, q = ((w1.alloc (.cells #[.slice none 0 0] 59)).alloc (.cells #[.int .i64 9223372036854775807] 3)).alloc (.cells #[.int .i64 0] 3) := ⟨_, rfl⟩
  try simp only [hb7, hb8, hb9]
  try rw [← hw2]
  have HL := hide (show HInv w w2 b3 b3 b4 b7 b8 b9 0 c p g 0 (H 0) by
    rw [hw2, HJ0.out]
    exact ⟨((HX3.out.alloc _).alloc _).alloc _, ((HX4.out.alloc _).alloc _).alloc _, ⟨none, 0, 0, ((Box.made hb7.symm).alloc _).alloc _, fun h => absurd h (Nat.lt_irrefl 0)⟩, (Box.made (by simp; omega)).alloc _, Box.made (by simp; omega), (((HB.out.alloc (by have := HB.out.size; omega) _).alloc (by have := HB.out.size; simp; omega) _).alloc (by have := HB.out.size; simp; omega) _)⟩)
  have h37 : b3 < b7 := by omega
  have h47 : b4 < b7 := by omega
  have h78 : b7 < b8 := by omega
  have h89 : b8 < b9 := by omega
  have hB3 : b3 ≤ b3 := Nat.le_refl _
  have HJ1 := HJ0
  clear hw2 HX3 HX4 HB hs1 HS1 HJ0
  go_wp2_with fail
  refine (labelsOf_any _ _).mono ?_
  rintro e w6 ⟨rfl, hw6⟩
  obtain ⟨b6, hb6⟩ : ∃ z, w2.heap.size = z := ⟨_, rfl⟩
  have bn : Box w6 b6 3 #[.int .i64 (c : Int)] := by rw [← hw6]; exact Box.made hb6.symm
  have hc6 : Below w2.heap.size w2 w6 := by rw [← hw6]; (repeat (first | (with_reducible exact Below.refl _ _) | (with_reducible refine Go.below_drewN ?_ _) | (with_reducible refine Below.drew ?_) | (with_reducible refine Below.alloc ?_ (by first | exact Nat.le_refl _ | (simp; done) | (simp; omega) | omega) _) | (with_reducible refine Below.setCell ?_ (by first | exact Nat.le_refl _ | (simp; done) | (simp; omega) | omega) _)))
  have h96 : b9 < b6 := by rw [← hb6]; exact HL.out.level.lt
  replace HL := hide (show HInv w w6 b3 b3 b4 b7 b8 b9 w6.heap.size c p g 0 (H 0) from (by obtain ⟨z1, z2, ⟨A, n, d, z3, z4⟩, z5, z6, z7⟩ := HL.out.under hc6 hB3; exact ⟨z1, z2, ⟨A, n, d, z3, fun h => absurd h (Nat.lt_irrefl 0)⟩, z5, z6, z7⟩))
  simp only [hb6]
  clear hw6 hc6 hb6
  go_wp2_with fail
  refine (wpIn_wide (n := 9)).1 ?_
  apply wpIn_rangeFunc_told (n := 9) (encs := encL c) rfl (by decide) rfl trivial (enters_of Try.func114 (by kernel_rfl) rfl) (labels_told 8 b6 c w6 bn h1 (by omega)) bn.lt (Below.refl _ _) (fun _ => rfl)
    (fun xs W => HInv w W b3 b3 b4 b7 b8 b9 w6.heap.size c p g xs.length (H xs.length)) (fun _ _ => False)
  case hI => exact fun xs X Y row h hg hr => h.roundly hg hB3 fun r e => ⟨by have := (hr r e).1; have := bn.lt; omega, (hr r e).2⟩
  case hIr => exact fun xs X Y row h _ _ => h
  case hT => exact fun xs x => told_own _ _ _ xs x
  case h0 => exact HL.out
  case hassign =>
    intro l x W K hK
    unfold encL
    gi_wp2
    exact hK
  case hbody =>
    intro l xs x W hsz HLW HT hlen
    obtain ⟨k, hk⟩ : ∃ k, xs.length = k := ⟨_, rfl⟩
    have HLEN := hide (show (xs ++ [x]).length = k + 1 by rw [List.length_append, hk]; rfl)
    rw [hk] at HLW hlen
    obtain ⟨hlo, hIx⟩ := HT
    rw [hk] at hIx
    have h6W := bn.lt
    have h6l : b9 < w6.heap.size := by omega
    clear HL
    have HL := hide HLW
    have HI := hide hIx
    have HKF := hide (KeepsFrom.refl w6.heap.size W)
    obtain ⟨O6, hO6⟩ : ∃ O, W.heap[b6]? = O := ⟨_, rfl⟩
    have HW6 := hide hO6
    have HO6 := hide hO6
    clear hO6
    have h6WW : b6 < W.heap.size := by omega
    clear HLW hIx hlo
    have HLV := hide (fun W1 (h : IntsAt W1 0 (some ⟨x, 0, none⟩) c (labF c k)) => levelOf_any x 0 c c _ W1 h1 h3 (Nat.le_refl _) (by omega) (fun j _ => labF_bit c k j) h)
    have hvl := gl_le hg (lvl_le h1 h3 fun q _ => labF_bit c k q)
    have HDk := hide (HDE.out k)
    have hDk := HD.out k
    have hJk := HJ.out k
    have HJN := hide (fun h : k = 0 => (show (H k).2.1 = 9223372036854775807 by rw [h]; exact congrArg (fun z => z.2.1) HJ1.out))
    obtain ⟨v, hv⟩ : ∃ z, lvl c (labF c k) = z := ⟨_, rfl⟩
    rw [hv] at HLV hvl HDk hJk
    obtain ⟨gv, hgv⟩ : ∃ z, g * v = z := ⟨_, rfl⟩
    rw [hgv] at hvl HDk
    have q1 : IntKind.i64.wrap (g * v) = gv := by rw [hgv]; exact IntWalk.i64_in _ (by omega)
    have q2 : IntKind.i64.wrap (p - gv) = p - gv := IntWalk.i64_in _ (by omega)
    have HSZ := hide (fun W1 => sizeOf_any (p - gv) W1 (by omega))
    rw [HDk.out] at HSZ
    obtain ⟨u, hu⟩ : ∃ z, D k = z := ⟨_, rfl⟩
    rw [hu] at HSZ hDk hJk
    obtain ⟨T, hT⟩ : ∃ z, H k = z := ⟨_, rfl⟩
    rw [hT] at hJk HL HJN
    obtain ⟨tj, m, f⟩ := T
    have HJK := hide hJk
    clear HDk hu hgv hv hT hJk
    replace HJK := hide (show H (k + 1) = if u < m ∨ (u = m ∧ v < f) then (k, u, v) else (tj, m, f) from HJK.out)
    replace HJN := hide (show k = 0 → m = 9223372036854775807 from HJN.out)
    by_cases c1 : u < m
    case pos =>
      have HC := hide (show u < m ∨ (u = m ∧ v < f) from .inl c1)
      have HTK := hide (show H (k + 1) = (k, u, v) from HJK.out.trans (if_pos HC.out))
      clear HJK HJN HC
      gi_wp2_with (first
        | (refine ⟨trivial, ?_⟩; gi_at_call 100; refine (CallsIn.inRound l (callsIn_wide.2 (HLV.out _ (HI.out.weak (Nat.zero_le _))))).mono ?_; rintro e_ w_2 ⟨rfl, hb_2⟩; replace HI := hide (HI.out.below hb_2); replace HL := hide (HL.out.under hb_2 hB3); replace HKF := hide (keepsUnder HKF.out hb_2); replace HW6 := hide ((hb_2.block b6 h6WW).trans HW6.out); clear hb_2; obtain ⟨A7, n7, d7, y3, y4, y7, y8, y9, f7, f8, f9, l7, l8, l9, l3, l4⟩ := HL.out.cells; simp only at y8 y9)
        | (refine ⟨trivial, ?_⟩; gi_at_call 78; refine (CallsIn.inRound l (callsIn_wide.2 (HSZ.out _))).mono ?_; rintro e_ v_ ⟨rfl, hv_⟩; have hv_ := hv_.symm; subst hv_))
      have HL2 := hide (HL.out.put HI.out u v h37 h47 h78 h89 h6l hB3)
      have HK2 := hide (keepsStored (u := .int .i64 v) (o := 0) (keepsStored (u := .int .i64 u) (o := 0) (keepsStored (u := .slice (some ⟨x, 0, none⟩) c c) (o := 0) HKF.out (b := b7) (by omega)) (b := b8) (by omega)) (b := b9) (by omega))
      have HW2 := hide ((Below.heap_setCell _ ⟨b9, 0, none⟩ (.int .i64 v) b6 (by show b6 ≠ b9; omega)).trans ((Below.heap_setCell _ ⟨b8, 0, none⟩ (.int .i64 u) b6 (by show b6 ≠ b8; omega)).trans ((Below.heap_setCell _ ⟨b7, 0, none⟩ (.slice (some ⟨x, 0, none⟩) c c) b6 (by show b6 ≠ b7; omega)).trans HW6.out)))
      clear HL HKF HW6
      try simp only [Exit.inBlock]
      refine ⟨HK2.out, HW2.out.trans HO6.out.symm, ?_⟩
      show HInv w _ b3 b3 b4 b7 b8 b9 w6.heap.size c p g (xs ++ [x]).length (H (xs ++ [x]).length)
      rw [HLEN.out, HTK.out]
      exact HL2.out
    by_cases c2 : u = m
    case neg =>
      have c2b : (u == m) = false := by simpa using c2
      have HC := hide (show ¬ (u < m ∨ (u = m ∧ v < f)) by omega)
      have C2 := hide c2
      clear c2
      have hk0 : 0 < k := by
        rcases Nat.eq_zero_or_pos k with h | h
        · have := HJN.out h; omega
        · exact h
      have HTK := hide (show H (k + 1) = (tj, m, f) from HJK.out.trans (if_neg HC.out))
      clear HJK HJN HC
      gi_wp2_with (first
        | (refine ⟨trivial, ?_⟩; gi_at_call 100; refine (CallsIn.inRound l (callsIn_wide.2 (HLV.out _ (HI.out.weak (Nat.zero_le _))))).mono ?_; rintro e_ w_2 ⟨rfl, hb_2⟩; replace HI := hide (HI.out.below hb_2); replace HL := hide (HL.out.under hb_2 hB3); replace HKF := hide (keepsUnder HKF.out hb_2); replace HW6 := hide ((hb_2.block b6 h6WW).trans HW6.out); clear hb_2; obtain ⟨A7, n7, d7, y3, y4, y7, y8, y9, f7, f8, f9, l7, l8, l9, l3, l4⟩ := HL.out.cells; simp only at y8 y9)
        | (refine ⟨trivial, ?_⟩; gi_at_call 78; refine (CallsIn.inRound l (callsIn_wide.2 (HSZ.out _))).mono ?_; rintro e_ v_ ⟨rfl, hv_⟩; have hv_ := hv_.symm; subst hv_))
      have HL2 := hide (HL.out.stay hk0)
      try simp only [Exit.inBlock]
      refine ⟨HKF.out, HW6.out.trans HO6.out.symm, ?_⟩
      show HInv w _ b3 b3 b4 b7 b8 b9 w6.heap.size c p g (xs ++ [x]).length (H (xs ++ [x]).length)
      rw [HLEN.out, HTK.out]
      exact HL2.out
    have c2b : (u == m) = true := by simpa using c2
    by_cases c3 : v < f
    case pos =>
      have HC := hide (show u < m ∨ (u = m ∧ v < f) from .inr ⟨c2, c3⟩)
      clear c2
      have HTK := hide (show H (k + 1) = (k, u, v) from HJK.out.trans (if_pos HC.out))
      clear HJK HJN HC
      gi_wp2_with (first
        | (refine ⟨trivial, ?_⟩; gi_at_call 100; refine (CallsIn.inRound l (callsIn_wide.2 (HLV.out _ (HI.out.weak (Nat.zero_le _))))).mono ?_; rintro e_ w_2 ⟨rfl, hb_2⟩; replace HI := hide (HI.out.below hb_2); replace HL := hide (HL.out.under hb_2 hB3); replace HKF := hide (keepsUnder HKF.out hb_2); replace HW6 := hide ((hb_2.block b6 h6WW).trans HW6.out); clear hb_2; obtain ⟨A7, n7, d7, y3, y4, y7, y8, y9, f7, f8, f9, l7, l8, l9, l3, l4⟩ := HL.out.cells; simp only at y8 y9)
        | (refine ⟨trivial, ?_⟩; gi_at_call 78; refine (CallsIn.inRound l (callsIn_wide.2 (HSZ.out _))).mono ?_; rintro e_ v_ ⟨rfl, hv_⟩; have hv_ := hv_.symm; subst hv_))
      have HL2 := hide (HL.out.put HI.out u v h37 h47 h78 h89 h6l hB3)
      have HK2 := hide (keepsStored (u := .int .i64 v) (o := 0) (keepsStored (u := .int .i64 u) (o := 0) (keepsStored (u := .slice (some ⟨x, 0, none⟩) c c) (o := 0) HKF.out (b := b7) (by omega)) (b := b8) (by omega)) (b := b9) (by omega))
      have HW2 := hide ((Below.heap_setCell _ ⟨b9, 0, none⟩ (.int .i64 v) b6 (by show b6 ≠ b9; omega)).trans ((Below.heap_setCell _ ⟨b8, 0, none⟩ (.int .i64 u) b6 (by show b6 ≠ b8; omega)).trans ((Below.heap_setCell _ ⟨b7, 0, none⟩ (.slice (some ⟨x, 0, none⟩) c c) b6 (by show b6 ≠ b7; omega)).trans HW6.out)))
      clear HL HKF HW6
      try simp only [Exit.inBlock]
      refine ⟨HK2.out, HW2.out.trans HO6.out.symm, ?_⟩
      show HInv w _ b3 b3 b4 b7 b8 b9 w6.heap.size c p g (xs ++ [x]).length (H (xs ++ [x]).length)
      rw [HLEN.out, HTK.out]
      exact HL2.out
    have HC := hide (show ¬ (u < m ∨ (u = m ∧ v < f)) by omega)
    have C2 := hide c2
    clear c2
    have hk0 : 0 < k := by
      rcases Nat.eq_zero_or_pos k with h | h
      · have := HJN.out h; omega
      · exact h
    have HTK := hide (show H (k + 1) = (tj, m, f) from HJK.out.trans (if_neg HC.out))
    clear HJK HJN HC
    gi_wp2_with (first
      | (refine ⟨trivial, ?_⟩; gi_at_call 100; refine (CallsIn.inRound l (callsIn_wide.2 (HLV.out _ (HI.out.weak (Nat.zero_le _))))).mono ?_; rintro e_ w_2 ⟨rfl, hb_2⟩; replace HI := hide (HI.out.below hb_2); replace HL := hide (HL.out.under hb_2 hB3); replace HKF := hide (keepsUnder HKF.out hb_2); replace HW6 := hide ((hb_2.block b6 h6WW).trans HW6.out); clear hb_2; obtain ⟨A7, n7, d7, y3, y4, y7, y8, y9, f7, f8, f9, l7, l8, l9, l3, l4⟩ := HL.out.cells; simp only at y8 y9)
      | (refine ⟨trivial, ?_⟩; gi_at_call 78; refine (CallsIn.inRound l (callsIn_wide.2 (HSZ.out _))).mono ?_; rintro e_ v_ ⟨rfl, hv_⟩; have hv_ := hv_.symm; subst hv_))
    have HL2 := hide (HL.out.stay hk0)
    try simp only [Exit.inBlock]
    refine ⟨HKF.out, HW6.out.trans HO6.out.symm, ?_⟩
    show HInv w _ b3 b3 b4 b7 b8 b9 w6.heap.size c p g (xs ++ [x]).length (H (xs ++ [x]).length)
    rw [HLEN.out, HTK.out]
    exact HL2.out
  case hdone =>
    clear HL
    intro D0 xs W hD hxs HLW hK
    have hK' := hide hK
    have hlen : xs.length = 2 ^ c := hxs
    rw [hlen] at HLW
    obtain ⟨A7, n7, d7, y3, y4, y7, y8, y9, f7, f8, f9, l7, l8, l9, l3, l4⟩ := HLW.cells
    obtain ⟨A, n, d, hbx, hnr⟩ := HLW.near
    obtain ⟨gb, rfl, rfl, rfl, hIG⟩ := hnr HPW.out
    have y7b := (y7.symm.trans (hbx.at_ 0))
    injection y7b with y7b
    injection y7b with z1 z2 z3
    subst z1
    subst z2
    subst z3
    have HIG := hide hIG
    have HBW := hide HLW.below
    clear y3 y4 y8 y9 f7 f8 f9 l8 l9 l3 l4 hbx hnr hIG hxs hK HLW HD HDE HJ HPW
    go_wp2_with fail
    refine ⟨by simp, .inl ⟨_, _, rfl, run_takeDeferred hK'.out, ?_⟩⟩
    refine ⟨_, results_tmp rfl _ _ _, _, rfl, ?_⟩
    have hI3 := HIG.out.roundly (grownBy_putObj' W D0 (.deferred none)) (fun r e => by cases e; exact ⟨_, hK'.out, rfl⟩)
    have hB3' := HBW.out.grown (grownBy_putObj' W D0 (.deferred none)) (by have := HBW.out.size; omega) (fun r e => by cases e; have := bn.lt; omega)
    rw [HR.out] at hI3
    have hlo : b3 ≤ w6.heap.size := by have := bn.lt; omega
    rw [hb3]
    first | exact ⟨gb, rfl, hI3.weak hlo, hB3'⟩ | exact ⟨hI3.weak hlo, hB3'⟩
  case hstop => exact fun D xs W _ _ h _ => h.elim
theorem hard_tells (gn : Int) (c : Nat) (hg : 1 ≤ gn ∧ gn ≤ 10000000) (h1 : 1 ≤ c) (h3 : c ≤ 3) : Tells 73 gn c (fun p => hardP p gn c) := fun p W hp => hardBits_any p gn c W hp hg h1 h3
end Go.Proofs.Ytceohaeebdhmjaa
/- Hard of the code. -/
namespace Go.Proofs.Ytceohaeebdhmjaa
open Go.RowKit Go.Lib
set_option maxHeartbeats 1000000 in
theorem Hard_wrong (k gn : Int) (A : Option Addr) (n d : Nat) (F : Nat → Gau) (w : World) (hn : n ≤ 100000) (hI : GausAt w 0 A n F) (hE : recvE k gn n F ≠ 0) :
    Calls Try.prog 35 #[.agg #[.int .i64 k, .int .i64 gn, .slice A n d]] w fun e w' => e = .returned (.tuple #[.slice none 0 0, .int .i64 (recvE k gn n F)]) ∧ Below w.heap.size w w' := by
  have HC := hide (fun W (h : GausAt W 0 A n F) => bitsOfParts_wrong 73 k gn A n d F W hn h hE)
  have HI := hide hI
  obtain ⟨E, hEE⟩ : ∃ z, recvE k gn n F = z := ⟨_, rfl⟩
  rw [hEE] at HC ⊢
  clear hI hE hEE
  go_enter Try.func35, Try.ntmps35
  go_upto_region 1 with fail
  obtain ⟨w1, hw1⟩ : ∃ q : World, q = w.alloc (.cells #[.int .i64 k, .int .i64 gn, .slice A n d] 58) := ⟨_, rfl⟩
  try rw [← hw1]
  have HX := hide (show Box w1 w.heap.size 58 #[.int .i64 k, .int .i64 gn, .slice A n d] by rw [hw1]; exact Box.made rfl)
  have HB := hide (show Below w.heap.size w w1 by rw [hw1]; (repeat (first | (with_reducible exact Below.refl _ _) | (with_reducible refine Go.below_drewN ?_ _) | (with_reducible refine Below.drew ?_) | (with_reducible refine Below.alloc ?_ (by first | exact Nat.le_refl _ | (simp; done) | (simp; omega) | omega) _) | (with_reducible refine Below.setCell ?_ (by first | exact Nat.le_refl _ | (simp; done) | (simp; omega) | omega) _))))
  clear hw1
  obtain ⟨c0, c1, c2, hlz⟩ := rec_cells HX.out
  go_wp2_with fail
  refine (HC.out _ (HI.out.below HB.out)).mono ?_
  rintro e w2 ⟨rfl, hb2⟩
  go_wp2_with fail
  go_ret2
  exact ⟨rfl, HB.out.trans (hb2.mono HB.out.size)⟩
set_option maxHeartbeats 1000000 in
theorem Hard_right (gn : Int) (c : Nat) (A : Option Addr) (n d : Nat) (F : Nat → Gau) (w : World) (hc1 : 1 ≤ c) (hc3 : c ≤ 3) (hn : n ≤ 200) (hI : GausAt w 0 A n F) (hE : recvE (2 * (c : Int)) gn n F = 0) :
    Calls Try.prog 35 #[.agg #[.int .i64 (2 * (c : Int)), .int .i64 gn, .slice A n d]] w fun e w' => ∃ v, e = .returned (.tuple #[v, .int .i64 0]) ∧ OwnInts w' w.heap.size v (n * (2 * c)) (bopF c (fun p => hardP p gn c) F) ∧ Below w.heap.size w w' := by
  have HC := hide (fun W (h : GausAt W 0 A n F) => bitsOfParts_right 73 (enters_of Try.func73 (by kernel_rfl) rfl) gn c A n d _ F W hc1 hc3 hn h hE (hard_tells gn c (recvE_gain hE).1 hc1 hc3))
  have HI := hide hI
  obtain ⟨S, hS⟩ : ∃ z, bopF c (fun p => hardP p gn c) F = z := ⟨_, rfl⟩
  rw [hS] at HC ⊢
  clear hI hE hS
  go_enter Try.func35, Try.ntmps35
  go_upto_region 1 with fail
  obtain ⟨w1, hw1⟩ : ∃ q : World, q = w.alloc (.cells #[.int .i64 (2 * (c : Int)), .int .i64 gn, .slice A n d] 58) := ⟨_, rfl⟩
  try rw [← hw1]
  have HX := hide (show Box w1 w.heap.size 58 #[.int .i64 (2 * (c : Int)), .int .i64 gn, .slice A n d] by rw [hw1]; exact Box.made rfl)
  have HB := hide (show Below w.heap.size w w1 by rw [hw1]; (repeat (first | (with_reducible exact Below.refl _ _) | (with_reducible refine Go.below_drewN ?_ _) | (with_reducible refine Below.drew ?_) | (with_reducible refine Below.alloc ?_ (by first | exact Nat.le_refl _ | (simp; done) | (simp; omega) | omega) _) | (with_reducible refine Below.setCell ?_ (by first | exact Nat.le_refl _ | (simp; done) | (simp; omega) | omega) _))))
  have hs1 : w.heap.size ≤ w1.heap.size := HB.out.size
  clear hw1
  obtain ⟨c0, c1, c2, hlz⟩ := rec_cells HX.out
  go_wp2_with fail
  refine (HC.out _ (HI.out.below HB.out)).mono ?_
  rintro e w2 ⟨v, rfl, ho2, hb2⟩
  obtain ⟨Av, cv, rfl, -, -⟩ := ho2.form
  go_wp2_with fail
  go_ret2
  exact ⟨_, rfl, ownS_weak ho2 (by omega), HB.out.trans (hb2.mono HB.out.size)⟩
end Go.Proofs.Ytceohaeebdhmjaa
/- The walk of SymbolReceives. -/
namespace Go.Proofs.Ytceohaeebdhmjaa
open Go Go.RowKit Go.Lib
theorem same_ints {w : World} {A C : Option Addr} {n c d : Nat} {F G : Nat → Int} (hn : n ≤ 100000) (h1 : IntsAt w 0 A n F) (h2 : IntsAt w 0 C n G) (he : ∀ j, j < n → F j = G j) :
    Calls Try.prog 40 #[.slice A n c, .slice C n d] w fun e w' => e = .returned (.bool true) ∧ Below w.heap.size w w' := by
  have h := ints_any A C n n c d F G w hn hn h1 h2
  rw [intsB_iff.2 ⟨rfl, he⟩] at h
  exact h.mono fun e w' ⟨h1, q, h2⟩ => ⟨h1, by rw [h2]; exact Go.below_drewN (Below.refl _ _) _⟩
theorem ordE_two {k : Int} (h : ordE k = 0) : ∃ c : Nat, 1 ≤ c ∧ c ≤ 3 ∧ k = 2 * (c : Int) := by
  unfold ordE at h
  by_cases e : k = 2 ∨ k = 4 ∨ k = 6
  · rcases e with rfl | rfl | rfl
    · exact ⟨1, by decide, by decide, rfl⟩
    · exact ⟨2, by decide, by decide, rfl⟩
    · exact ⟨3, by decide, by decide, rfl⟩
  · rw [if_neg e] at h; exact absurd h (by decide)
theorem few_le {n : Nat} (h : (decide ((n : Int) ≤ 8) || (decide ((n : Int) > 200) && decide ((n : Int) ≤ 200 + 2))) = true) : n ≤ 202 := by
  simp only [Bool.or_eq_true, Bool.and_eq_true, decide_eq_true_eq] at h
  omega
set_option maxHeartbeats 32000000 in
set_option maxRecDepth 100000 in
theorem symbolReceives_walk (k gn : Int) (A A2 : Option Addr) (n d m d2 : Nat) (F G : Nat → Gau) (w : World) (hI : GausAt w 0 A n F) (hJ : GausAt w 0 A2 m G) :
    Calls Try.prog 7 #[.agg #[.int .i64 k, .int .i64 gn, .slice A n d], .slice A2 m d2] w fun e w' => e = .returned (.bool true) ∧ Below w.heap.size w w' := by
  have HFF := hide hI
  have HGG := hide hJ
  have HB := hide (Below.refl w.heap.size w)
  have HFN := hide (fun W => few_any (n : Int) 8 200 W (by decide))
  have HFM := hide (fun W => few_any (m : Int) 8 200 W (by decide))
  have HN := hide (fun h => few_le (n := n) h)
  have HM := hide (fun h => few_le (n := m) h)
  obtain ⟨fn, hfn⟩ : ∃ z, (decide ((n : Int) ≤ 8) || (decide ((n : Int) > 200) && decide ((n : Int) ≤ 200 + 2))) = z := ⟨_, rfl⟩
  obtain ⟨fm, hfm⟩ : ∃ z, (decide ((m : Int) ≤ 8) || (decide ((m : Int) > 200) && decide ((m : Int) ≤ 200 + 2))) = z := ⟨_, rfl⟩
  simp only [hfn] at HFN HN
  simp only [hfm] at HFM HM
  clear hI hJ hfn hfm
  go_enter Try.func7, Try.ntmps7
  go_upto_region 1 with fail
  obtain ⟨v1, hv1⟩ : ∃ z : World, z = (w.alloc (.cells #[.int .i64 k, .int .i64 gn, .slice A n d] 58)) := ⟨_, rfl⟩
  try rw [← hv1]
  have HX := hide (show Box v1 (w.heap.size) 58 #[.int .i64 k, .int .i64 gn, .slice A n d] by rw [hv1]; exact Box.made rfl)
  have hb1 : Below w.heap.size w v1 := by rw [hv1]; (repeat (first | (with_reducible exact Below.refl _ _) | (with_reducible refine Go.below_drewN ?_ _) | (with_reducible refine Below.drew ?_) | (with_reducible refine Below.alloc ?_ (by first | exact Nat.le_refl _ | (simp; done) | (simp; omega) | omega) _) | (with_reducible refine Below.setCell ?_ (by first | exact Nat.le_refl _ | (simp; done) | (simp; omega) | omega) _)))
  clear hv1
  replace HFF := hide (HFF.out.below hb1)
  replace HGG := hide (HGG.out.below hb1)
  replace HB := hide (HB.out.trans (hb1.mono HB.out.size))
  clear hb1
  obtain ⟨b1, eb1⟩ : ∃ z, w.heap.size = z := ⟨_, rfl⟩
  simp only [eb1] at HX
  try simp only [eb1]
  clear eb1
  go_wp2_with fail
  refine (awakeS_any _).mono ?_
  rintro e_ v2 ⟨rfl, hb2⟩
  replace HFF := hide (HFF.out.below hb2)
  replace HGG := hide (HGG.out.below hb2)
  replace HX := hide (HX.out.below hb2)
  replace HB := hide (HB.out.trans (hb2.mono HB.out.size))
  clear hb2
  obtain ⟨l0_0, l0_1, l0_2, l0_z⟩ := rec_cells HX.out
  go_wp2_with fail
  clear l0_0 l0_1 l0_2 l0_z
  cases fn
  · skip
    refine (HFN.out _).mono ?_
    rintro e_ v_ ⟨rfl, rfl⟩
    go_wp2_with fail
    go_ret
    exact ⟨rfl, HB.out⟩
  replace HN := HN.out rfl
  refine (HFN.out _).mono ?_
  rintro e_ v_ ⟨rfl, rfl⟩
  go_wp2_with fail
  cases fm
  · skip
    refine (HFM.out _).mono ?_
    rintro e_ v_ ⟨rfl, rfl⟩
    go_wp2_with fail
    go_ret
    exact ⟨rfl, HB.out⟩
  replace HM := HM.out rfl
  refine (HFM.out _).mono ?_
  rintro e_ v_ ⟨rfl, rfl⟩
  obtain ⟨l0_0, l0_1, l0_2, l0_z⟩ := rec_cells HX.out
  go_wp2_with fail
  clear l0_0 l0_1 l0_2 l0_z
  clear HFN HFM
  have HCR := hide (fun W (h : GausAt W 0 A n F) => CopyReceived_any k gn A n d F W (by omega) h)
  have HCG := hide (fun W (h : GausAt W 0 A2 m G) => copyGaus_own A2 m d2 G W (by omega) h)
  have HRV := hide (fun W (h : GausAt W 0 A n F) => ReceivedErrR_any k gn A n d F W (by omega) h)
  by_cases hE : recvE k gn n F = 0
  case neg =>
    have HHD := hide (fun C e W (h : GausAt W 0 C n F) => Hard_wrong k gn C n e F W (by omega) h hE)
    have HSF := hide (fun C e W (h : GausAt W 0 C n F) => Soft_wrong k gn C n e F W (by omega) h hE)
    have HGE := hide (fun C e D f W (h : GausAt W 0 C n F) (h2 : GausAt W 0 D m G) => GreatestError_wrong k gn C n e F D m f G W (by omega) (by omega) h h2 (by rw [orS_left hE]; exact hE))
    simp only [orS_left hE] at HGE
    obtain ⟨E, hEE⟩ : ∃ z, recvE k gn n F = z := ⟨_, rfl⟩
    simp only [hEE] at HHD HSF HGE HRV hE
    have tz : (E != 0) = true := by simpa using hE
    have tz2 : (E == E) = true := by simp
    clear hEE hE
    refine (HCR.out _ HFF.out).mono ?_
    rintro e_ v3 ⟨C1, e1, rfl, ho, hb3⟩
    replace HFF := hide (HFF.out.below hb3)
    replace HGG := hide (HGG.out.below hb3)
    replace HX := hide (HX.out.below hb3)
    replace HB := hide (HB.out.trans (hb3.mono HB.out.size))
    clear hb3
    have HC1 := hide (ho.gaus.weak (lo' := 0) (Nat.zero_le _))
    clear ho
    go_wp2_with fail
    refine (HHD.out _ _ _ HC1.out).mono ?_
    rintro e_ v4 ⟨rfl, hb4⟩
    replace HFF := hide (HFF.out.below hb4)
    replace HGG := hide (HGG.out.below hb4)
    replace HX := hide (HX.out.below hb4)
    replace HC1 := hide (HC1.out.below hb4)
    replace HB := hide (HB.out.trans (hb4.mono HB.out.size))
    clear hb4
    obtain ⟨l0_0, l0_1, l0_2, l0_z⟩ := rec_cells HX.out
    go_wp2_with fail
    clear l0_0 l0_1 l0_2 l0_z
    clear HC1
    refine (HCR.out _ HFF.out).mono ?_
    rintro e_ v5 ⟨C2, e2, rfl, ho, hb5⟩
    replace HFF := hide (HFF.out.below hb5)
    replace HGG := hide (HGG.out.below hb5)
    replace HX := hide (HX.out.below hb5)
    replace HB := hide (HB.out.trans (hb5.mono HB.out.size))
    clear hb5
    have HC2 := hide (ho.gaus.weak (lo' := 0) (Nat.zero_le _))
    clear ho
    go_wp2_with fail
    refine (HSF.out _ _ _ HC2.out).mono ?_
    rintro e_ v6 ⟨rfl, hb6⟩
    replace HFF := hide (HFF.out.below hb6)
    replace HGG := hide (HGG.out.below hb6)
    replace HX := hide (HX.out.below hb6)
    replace HC2 := hide (HC2.out.below hb6)
    replace HB := hide (HB.out.trans (hb6.mono HB.out.size))
    clear hb6
    obtain ⟨l0_0, l0_1, l0_2, l0_z⟩ := rec_cells HX.out
    go_wp2_with fail
    clear l0_0 l0_1 l0_2 l0_z
    clear HC2
    refine (HCR.out _ HFF.out).mono ?_
    rintro e_ v7 ⟨C3, e3, rfl, ho, hb7⟩
    replace HFF := hide (HFF.out.below hb7)
    replace HGG := hide (HGG.out.below hb7)
    replace HX := hide (HX.out.below hb7)
    replace HB := hide (HB.out.trans (hb7.mono HB.out.size))
    clear hb7
    have HC3 := hide (ho.gaus.weak (lo' := 0) (Nat.zero_le _))
    clear ho
    go_wp2_with fail
    refine (HCG.out _ HGG.out).mono ?_
    rintro e_ v8 ⟨vs, rfl, ho, hb8⟩
    obtain ⟨Cs, es, rfl, -, hgs⟩ := ownGaus_form ho
    replace HFF := hide (HFF.out.below hb8)
    replace HGG := hide (HGG.out.below hb8)
    replace HX := hide (HX.out.below hb8)
    replace HC3 := hide (HC3.out.below hb8)
    replace HB := hide (HB.out.trans (hb8.mono HB.out.size))
    clear hb8
    have HCS := hide (hgs.weak (lo' := 0) (Nat.zero_le _))
    clear ho hgs
    go_wp2_with fail
    refine (HGE.out _ _ _ _ _ HC3.out HCS.out).mono ?_
    rintro e_ v9 ⟨rfl, hb9⟩
    replace HFF := hide (HFF.out.below hb9)
    replace HGG := hide (HGG.out.below hb9)
    replace HX := hide (HX.out.below hb9)
    replace HC3 := hide (HC3.out.below hb9)
    replace HCS := hide (HCS.out.below hb9)
    replace HB := hide (HB.out.trans (hb9.mono HB.out.size))
    clear hb9
    obtain ⟨l0_0, l0_1, l0_2, l0_z⟩ := rec_cells HX.out
    go_wp2_with fail
    clear l0_0 l0_1 l0_2 l0_z
    clear HC3 HCS
    clear HHD HSF HGE HCR HCG
    refine (HRV.out _ HFF.out).mono ?_
    rintro e_ v10 ⟨rfl, hb10⟩
    replace HFF := hide (HFF.out.below hb10)
    replace HGG := hide (HGG.out.below hb10)
    replace HX := hide (HX.out.below hb10)
    replace HB := hide (HB.out.trans (hb10.mono HB.out.size))
    clear hb10
    go_wp2_with fail
    go_ret
    exact ⟨rfl, HB.out⟩
  obtain ⟨hg, hord, hn0, hn2, hFW⟩ := recvE_all hE
  obtain ⟨c, hc1, hc3, rfl⟩ := ordE_two hord
  have HHD := hide (fun C e W (h : GausAt W 0 C n F) => Hard_right gn c C n e F W hc1 hc3 hn2 h hE)
  have HSF := hide (fun C e W (h : GausAt W 0 C n F) => Soft_right gn c C n e F W hc1 hc3 hn2 h hE)
  have HGE := hide (fun C e D f W (h : GausAt W 0 C n F) (h2 : GausAt W 0 D m G) => GreatestError_ok (2 * (c : Int)) gn C n e F D m f G W (by omega) (by omega) h h2 hE)
  have HHR := hide (fun W (h : GausAt W 0 A n F) => HardR_any gn c A n d F W hc1 hc3 hn2 hg hFW h)
  have HSR := hide (fun W (h : GausAt W 0 A n F) => SoftR_any gn c A n d F W hc1 hc3 hn2 hg hFW h)
  have HAG := hide (fun q hq => bop_agree (q := q) hg hc1 hc3 hFW hq)
  have HSE := hide (fun W (h : GausAt W 0 A2 m G) => SymbolsErrR_any A2 m d2 G W (by omega) h)
  have HGR := hide (fun (h2 : symsE m G = 0) => (show ∀ W, GausAt W 0 A n F → GausAt W 0 A2 m G → Calls Try.prog 44 #[.agg #[.int .i64 (2 * (c : Int)), .int .i64 gn, .slice A n d], .slice A2 m d2] W fun e w' => e = .returned (.tuple #[.int .i64 (greU gn n F m G).1, .int .i64 (greU gn n F m G).2.1, .int .i64 (greU gn n F m G).2.2]) ∧ Below W.heap.size W w' from fun W h h3 => by
    have e : greU gn n F m G = greT gn n F m G := if_pos h2
    rw [e]
    exact GreatestErrorR_any (2 * (c : Int)) gn A n d F A2 m d2 G W h h3 hE h2))
  have HNE := hide (fun (h2 : ¬ symsE m G = 0) => (show greU gn n F m G = (0, 0, symsE m G) from if_neg h2))
  simp only [hE] at HRV
  have hN9 : n * (2 * c) ≤ 1200 := Nat.le_trans (Nat.mul_le_mul hn2 (show 2 * c ≤ 6 by omega)) (by decide)
  obtain ⟨N, hN⟩ : ∃ z, n * (2 * c) = z := ⟨_, rfl⟩
  simp only [hN] at HHD HSF HHR HSR HAG hN9
  obtain ⟨H, hH⟩ : ∃ z, bopF c (fun p => hardP p gn c) F = z := ⟨_, rfl⟩
  simp only [hH] at HHD HHR HAG
  obtain ⟨S, hS⟩ : ∃ z, bopF c (fun p => softP p gn c) F = z := ⟨_, rfl⟩
  simp only [hS] at HSF HSR HAG
  obtain ⟨⟨t1, t2, t3⟩, hT⟩ : ∃ z, greU gn n F m G = z := ⟨_, rfl⟩
  simp only [hT] at HGE HGR HNE
  obtain ⟨E2, hE2⟩ : ∃ z, symsE m G = z := ⟨_, rfl⟩
  simp only [hE2] at HSE HGR HNE
  obtain ⟨k2, hk2⟩ : ∃ z, 2 * (c : Int) = z := ⟨_, rfl⟩
  simp only [hk2] at HHD HSF HGE HHR HSR HGR HCR HRV HX
  try simp only [hk2]
  have tn : ((N : Int) != (N : Int)) = false := by simp
  have t11 : (t1 == t1) = true := by simp
  have t22 : (t2 == t2) = true := by simp
  have t33 : (t3 == t3) = true := by simp
  have t00 : ((0 : Int) != 0) = false := by decide
  have t10 : ((1 : Int) != 1) = false := by decide
  clear hN hH hS hT hE2 hk2 hE hord hFW hg
  refine (HCR.out _ HFF.out).mono ?_
  rintro e_ v11 ⟨C4, e4, rfl, ho, hb11⟩
  replace HFF := hide (HFF.out.below hb11)
  replace HGG := hide (HGG.out.below hb11)
  replace HX := hide (HX.out.below hb11)
  replace HB := hide (HB.out.trans (hb11.mono HB.out.size))
  clear hb11
  have HC4 := hide (ho.gaus.weak (lo' := 0) (Nat.zero_le _))
  clear ho
  go_wp2_with fail
  refine (HHD.out _ _ _ HC4.out).mono ?_
  rintro e_ v12 ⟨vi, rfl, hi, hb12⟩
  obtain ⟨Ahd, chd, rfl, -, hh⟩ := hi.form
  replace HFF := hide (HFF.out.below hb12)
  replace HGG := hide (HGG.out.below hb12)
  replace HX := hide (HX.out.below hb12)
  replace HC4 := hide (HC4.out.below hb12)
  replace HB := hide (HB.out.trans (hb12.mono HB.out.size))
  clear hb12
  have Hhd := hide (hh.weak (Nat.zero_le _))
  clear hi hh
  obtain ⟨l0_0, l0_1, l0_2, l0_z⟩ := rec_cells HX.out
  go_wp2_with fail
  clear l0_0 l0_1 l0_2 l0_z
  clear HC4
  clear HHD
  refine (HCR.out _ HFF.out).mono ?_
  rintro e_ v13 ⟨C5, e5, rfl, ho, hb13⟩
  replace HFF := hide (HFF.out.below hb13)
  replace HGG := hide (HGG.out.below hb13)
  replace HX := hide (HX.out.below hb13)
  replace Hhd := hide (Hhd.out.below hb13)
  replace HB := hide (HB.out.trans (hb13.mono HB.out.size))
  clear hb13
  have HC5 := hide (ho.gaus.weak (lo' := 0) (Nat.zero_le _))
  clear ho
  go_wp2_with fail
  refine (HSF.out _ _ _ HC5.out).mono ?_
  rintro e_ v14 ⟨vi, rfl, hi, hb14⟩
  obtain ⟨Asf, csf, rfl, -, hh⟩ := hi.form
  replace HFF := hide (HFF.out.below hb14)
  replace HGG := hide (HGG.out.below hb14)
  replace HX := hide (HX.out.below hb14)
  replace Hhd := hide (Hhd.out.below hb14)
  replace HC5 := hide (HC5.out.below hb14)
  replace HB := hide (HB.out.trans (hb14.mono HB.out.size))
  clear hb14
  have Hsf := hide (hh.weak (Nat.zero_le _))
  clear hi hh
  obtain ⟨l0_0, l0_1, l0_2, l0_z⟩ := rec_cells HX.out
  go_wp2_with fail
  clear l0_0 l0_1 l0_2 l0_z
  clear HC5
  clear HSF
  refine (HCR.out _ HFF.out).mono ?_
  rintro e_ v15 ⟨C6, e6, rfl, ho, hb15⟩
  replace HFF := hide (HFF.out.below hb15)
  replace HGG := hide (HGG.out.below hb15)
  replace HX := hide (HX.out.below hb15)
  replace Hhd := hide (Hhd.out.below hb15)
  replace Hsf := hide (Hsf.out.below hb15)
  replace HB := hide (HB.out.trans (hb15.mono HB.out.size))
  clear hb15
  have HC6 := hide (ho.gaus.weak (lo' := 0) (Nat.zero_le _))
  clear ho
  go_wp2_with fail
  refine (HCG.out _ HGG.out).mono ?_
  rintro e_ v16 ⟨vs, rfl, ho, hb16⟩
  obtain ⟨Cs, es, rfl, -, hgs⟩ := ownGaus_form ho
  replace HFF := hide (HFF.out.below hb16)
  replace HGG := hide (HGG.out.below hb16)
  replace HX := hide (HX.out.below hb16)
  replace Hhd := hide (Hhd.out.below hb16)
  replace Hsf := hide (Hsf.out.below hb16)
  replace HC6 := hide (HC6.out.below hb16)
  replace HB := hide (HB.out.trans (hb16.mono HB.out.size))
  clear hb16
  have HCS := hide (hgs.weak (lo' := 0) (Nat.zero_le _))
  clear ho hgs
  go_wp2_with fail
  refine (HGE.out _ _ _ _ _ HC6.out HCS.out).mono ?_
  rintro e_ v17 ⟨rfl, hb17⟩
  replace HFF := hide (HFF.out.below hb17)
  replace HGG := hide (HGG.out.below hb17)
  replace HX := hide (HX.out.below hb17)
  replace Hhd := hide (Hhd.out.below hb17)
  replace Hsf := hide (Hsf.out.below hb17)
  replace HC6 := hide (HC6.out.below hb17)
  replace HCS := hide (HCS.out.below hb17)
  replace HB := hide (HB.out.trans (hb17.mono HB.out.size))
  clear hb17
  obtain ⟨l0_0, l0_1, l0_2, l0_z⟩ := rec_cells HX.out
  go_wp2_with fail
  clear l0_0 l0_1 l0_2 l0_z
  clear HC6 HCS
  clear HGE HCR HCG
  refine (HRV.out _ HFF.out).mono ?_
  rintro e_ v18 ⟨rfl, hb18⟩
  replace HFF := hide (HFF.out.below hb18)
  replace HGG := hide (HGG.out.below hb18)
  replace HX := hide (HX.out.below hb18)
  replace Hhd := hide (Hhd.out.below hb18)
  replace Hsf := hide (Hsf.out.below hb18)
  replace HB := hide (HB.out.trans (hb18.mono HB.out.size))
  clear hb18
  obtain ⟨l0_0, l0_1, l0_2, l0_z⟩ := rec_cells HX.out
  go_wp2_with fail
  clear l0_0 l0_1 l0_2 l0_z
  clear HRV
  refine (HHR.out _ HFF.out).mono ?_
  rintro e_ v19 ⟨vi, rfl, hi, hb19⟩
  obtain ⟨Ahr, chr, rfl, -, hh⟩ := hi.form
  replace HFF := hide (HFF.out.below hb19)
  replace HGG := hide (HGG.out.below hb19)
  replace HX := hide (HX.out.below hb19)
  replace Hhd := hide (Hhd.out.below hb19)
  replace Hsf := hide (Hsf.out.below hb19)
  replace HB := hide (HB.out.trans (hb19.mono HB.out.size))
  clear hb19
  have Hhr := hide (hh.weak (Nat.zero_le _))
  clear hi hh
  go_wp2_with fail
  clear HHR
  refine (same_ints (by omega) Hhd.out Hhr.out (fun _ _ => rfl)).mono ?_
  rintro e_ v20 ⟨rfl, hb20⟩
  replace HFF := hide (HFF.out.below hb20)
  replace HGG := hide (HGG.out.below hb20)
  replace HX := hide (HX.out.below hb20)
  replace Hhd := hide (Hhd.out.below hb20)
  replace Hsf := hide (Hsf.out.below hb20)
  replace Hhr := hide (Hhr.out.below hb20)
  replace HB := hide (HB.out.trans (hb20.mono HB.out.size))
  clear hb20
  obtain ⟨l0_0, l0_1, l0_2, l0_z⟩ := rec_cells HX.out
  go_wp2_with fail
  clear l0_0 l0_1 l0_2 l0_z
  clear Hhr
  refine (HSR.out _ HFF.out).mono ?_
  rintro e_ v21 ⟨vi, rfl, hi, hb21⟩
  obtain ⟨Asr, csr, rfl, -, hh⟩ := hi.form
  replace HFF := hide (HFF.out.below hb21)
  replace HGG := hide (HGG.out.below hb21)
  replace HX := hide (HX.out.below hb21)
  replace Hhd := hide (Hhd.out.below hb21)
  replace Hsf := hide (Hsf.out.below hb21)
  replace HB := hide (HB.out.trans (hb21.mono HB.out.size))
  clear hb21
  have Hsr := hide (hh.weak (Nat.zero_le _))
  clear hi hh
  go_wp2_with fail
  clear HSR
  refine (same_ints (by omega) Hsf.out Hsr.out (fun _ _ => rfl)).mono ?_
  rintro e_ v22 ⟨rfl, hb22⟩
  replace HFF := hide (HFF.out.below hb22)
  replace HGG := hide (HGG.out.below hb22)
  replace HX := hide (HX.out.below hb22)
  replace Hhd := hide (Hhd.out.below hb22)
  replace Hsf := hide (Hsf.out.below hb22)
  replace Hsr := hide (Hsr.out.below hb22)
  replace HB := hide (HB.out.trans (hb22.mono HB.out.size))
  clear hb22
  go_wp2_with fail
  clear Hsr
  go_loopw [13] (fun i wr => ∃ q : Nat, q ≤ N ∧ i = .int .i64 (q : Int) ∧ v22 = wr) (fun i _ => N - (Go.RowKit.intOf i).toNat)
  case atStart => exact ⟨0, Nat.zero_le _, rfl, rfl⟩
  case round =>
    obtain ⟨q, hq, rfl, hwr⟩ := hrel
    subst hwr
    by_cases hlt : q < N
    case pos =>
      have hltz : (q : Int) < (N : Int) := by omega
      obtain ⟨b1_, o1_, rfl, -, hl1, y1⟩ := Hhd.out q hlt
      obtain ⟨b2_, o2_, rfl, -, hl2, y2⟩ := Hsf.out q hlt
      obtain ⟨g1, g2⟩ := HAG.out q hlt
      obtain ⟨h, hh⟩ : ∃ z, H q = z := ⟨_, rfl⟩
      obtain ⟨s, hs⟩ : ∃ z, S q = z := ⟨_, rfl⟩
      rw [hh] at y1 g1 g2
      rw [hs] at y2 g1 g2
      clear hh hs HAG HSE HGR HNE
      by_cases s1 : 0 < s
      case pos =>
        obtain rfl := g1 s1
        have s2 : ¬ s < 0 := by omega
        clear g1 g2
        go_wp2_with fail
        go_roundw
        case rel => exact ⟨q + 1, by omega, by go_num, (by first | rfl | trivial)⟩
        case measure => simp [Go.RowKit.intOf]; omega
      by_cases s2 : s < 0
      case pos =>
        obtain rfl := g2 s2
        clear g1 g2
        go_wp2_with fail
        go_roundw
        case rel => exact ⟨q + 1, by omega, by go_num, (by first | rfl | trivial)⟩
        case measure => simp [Go.RowKit.intOf]; omega
      clear g1 g2
      go_wp2_with fail
      go_roundw
      case rel => exact ⟨q + 1, by omega, by go_num, (by first | rfl | trivial)⟩
      case measure => simp [Go.RowKit.intOf]; omega
    obtain rfl : N = q := by omega
    have hltz : ¬ (N : Int) < (N : Int) := by omega
    clear HAG
    go_wp2_with fail
    refine (HSE.out _ HGG.out).mono ?_
    rintro e_ v23 ⟨rfl, hb23⟩
    replace HFF := hide (HFF.out.below hb23)
    replace HGG := hide (HGG.out.below hb23)
    replace HX := hide (HX.out.below hb23)
    replace Hhd := hide (Hhd.out.below hb23)
    replace Hsf := hide (Hsf.out.below hb23)
    replace HB := hide (HB.out.trans (hb23.mono HB.out.size))
    clear hb23
    clear HSE
    by_cases hz2 : E2 = 0
    case neg =>
      have hne := HNE.out hz2
      injection hne with e1 e2
      injection e2 with e2 e3
      subst e1
      subst e2
      subst e3
      have tq : (t3 == 0) = false := by simpa using hz2
      clear HNE HGR hz2
      go_wp2_with fail
      go_ret
      exact ⟨rfl, HB.out⟩
    subst hz2
    replace HGR := hide (HGR.out (by trivial))
    clear HNE
    obtain ⟨l0_0, l0_1, l0_2, l0_z⟩ := rec_cells HX.out
    go_wp2_with fail
    clear l0_0 l0_1 l0_2 l0_z
    refine (HGR.out _ HFF.out HGG.out).mono ?_
    rintro e_ v24 ⟨rfl, hb24⟩
    replace HFF := hide (HFF.out.below hb24)
    replace HGG := hide (HGG.out.below hb24)
    replace HX := hide (HX.out.below hb24)
    replace Hhd := hide (Hhd.out.below hb24)
    replace Hsf := hide (Hsf.out.below hb24)
    replace HB := hide (HB.out.trans (hb24.mono HB.out.size))
    clear hb24
    go_wp2_with fail
    go_ret
    exact ⟨rfl, HB.out⟩
end Go.Proofs.Ytceohaeebdhmjaa
/- Points of the code. -/
namespace Go.Proofs.Ytceohaeebdhmjaa
open Go Go.RowKit Go.Lib Go.Shelf
attribute [local go_sem] Oper.semAt_some
structure PInv (w0 W : World) (B b5 k : Nat) (P : Nat → Gau) (v : Value) : Prop where
  box : Box W b5 22 #[v]
  own : OwnGaus W B v k P
  below : Below w0.heap.size w0 W
  size : B ≤ W.heap.size
theorem PInv.roundly {w0 W Y : World} {B b5 k : Nat} {P : Nat → Gau} {v : Value} {row : Option Nat} (hi : PInv w0 W B b5 k P v) (hg : W.grownBy Y row) (hB : w0.heap.size ≤ B) (hr : ∀ r, row = some r → B ≤ r ∧ ∃ o : Obj, W.heap[r]? = some o ∧ o.isCells = false) : PInv w0 Y B b5 k P v :=
  ⟨hi.box.roundly hg fun r e => (hr r e).2, hi.own.roundly hg fun r e => (hr r e).2, hi.below.grown hg hi.below.size fun r e => by have := (hr r e).1; omega, Nat.le_trans hi.size hg.size⟩
end Go.Proofs.Ytceohaeebdhmjaa
/- half, Point, Points, Modulated of the reference. -/
namespace Go.Proofs.Ytceohaeebdhmjaa
open Go Go.RowKit Go.Lib Go.Shelf
end Go.Proofs.Ytceohaeebdhmjaa
/- Modulated of the reference. -/
namespace Go.Proofs.Ytceohaeebdhmjaa
open Go Go.RowKit Go.Lib Go.Shelf
end Go.Proofs.Ytceohaeebdhmjaa
/- The walk of SymbolPoints. -/
namespace Go.Proofs.Ytceohaeebdhmjaa
open Go Go.RowKit Go.Lib Ieee
theorem bitE_parts {n : Nat} {F : Nat → Int} (h : bitE n F 400 = 0) : 0 < n ∧ n ≤ 400 ∧ ∀ j, j < n → IsBit (F j) := by
  unfold bitE at h
  by_cases h0 : n = 0
  · rw [if_pos h0] at h; exact absurd h (by decide)
  rw [if_neg h0] at h
  by_cases h1 : (400 : Int) < (n : Int)
  · rw [if_pos h1] at h; exact absurd h (by decide)
  rw [if_neg h1] at h
  unfold unI at h
  by_cases hb : bitsB n F = true
  · exact ⟨by omega, by omega, bitsB_iff.1 hb⟩
  · rw [if_neg hb] at h; exact absurd h (by decide)
end Go.Proofs.Ytceohaeebdhmjaa
/- Lemmas of SymbolSigns' walk. -/
namespace Go.Proofs.Ytceohaeebdhmjaa
open Go Go.RowKit Go.Lib
theorem tm_two {n c : Nat} (h1 : 1 ≤ c) (h3 : c ≤ 3) : (n : Int).tmod (2 * (c : Int)) = ((n % (2 * c) : Nat) : Int) ∧ (n : Int).tdiv (2 * (c : Int)) = ((n / (2 * c) : Nat) : Int) := by
  obtain rfl | rfl | rfl : c = 1 ∨ c = 2 ∨ c = 3 := by omega
  all_goals
    constructor
    · rw [Int.tmod_eq_emod_of_nonneg (by omega)]; omega
    · rw [Int.tdiv_eq_ediv_of_nonneg (by omega)]; omega
/-- The point of the symbol j. -/
def ptF (c : Nat) (F : Nat → Int) (j : Nat) : Gau := pntF c F (j * (2 * c))
theorem ptF_le {c C : Nat} {F : Nat → Int} (h1 : 1 ≤ c) (h3 : c ≤ 3) (hF : ∀ q, q < C * (2 * c) → IsBit (F q)) {j : Nat} (hj : j < C) : (-7 ≤ (ptF c F j).re ∧ (ptF c F j).re ≤ 7) ∧ -7 ≤ (ptF c F j).im ∧ (ptF c F j).im ≤ 7 := by
  have hb2 : (j + 1) * (2 * c) ≤ C * (2 * c) := Nat.mul_le_mul_right _ hj
  rw [Nat.add_mul, Nat.one_mul] at hb2
  exact pnt_le h1 h3 fun r hr => hF _ (by omega)
/-- What is received: at the gain g, with errors E turned into less than the gain. -/
def rcvF (g : Int) (P E : Nat → Gau) (j : Nat) : Gau := ⟨g * (P j).re + ((E j).re % (2 * g - 1) - g + 1), g * (P j).im + ((E j).im % (2 * g - 1) - g + 1)⟩
theorem err_in {g e : Int} (hg : 1 ≤ g) : (0 ≤ e % (2 * g - 1) ∧ e % (2 * g - 1) ≤ 2 * g - 2) ∧ -g < e % (2 * g - 1) - g + 1 ∧ e % (2 * g - 1) - g + 1 < g := by
  have h1 := Int.emod_nonneg e (show 2 * g - 1 ≠ 0 by omega)
  have h2 := Int.emod_lt_of_pos e (show 0 < 2 * g - 1 by omega)
  omega
theorem rcv_near {g : Int} {c C : Nat} {F : Nat → Int} {E : Nat → Gau} (hg : 1 ≤ g) : NearTo g c C F (rcvF g (ptF c F) E) := fun j _ => ⟨_, _, (err_in hg).2, (err_in hg).2, rfl⟩
theorem rcv_in {g : Int} {c C : Nat} {F : Nat → Int} {E : Nat → Gau} (hg : 1 ≤ g ∧ g ≤ 1000000) (h1 : 1 ≤ c) (h3 : c ≤ 3) (hF : ∀ q, q < C * (2 * c) → IsBit (F q)) {j : Nat} (hj : j < C) : (rcvF g (ptF c F) E j).Within 100000000 := by
  obtain ⟨a, b⟩ := ptF_le h1 h3 hF hj
  have a2 := gl_le (g := g) ⟨hg.1, by omega⟩ a
  have b2 := gl_le (g := g) ⟨hg.1, by omega⟩ b
  have ea := (err_in (g := g) (e := (E j).re) hg.1).2
  have eb := (err_in (g := g) (e := (E j).im) hg.1).2
  exact ⟨by unfold rcvF; simp only; omega, by unfold rcvF; simp only; omega⟩
theorem rcv_right {k g : Int} {c C : Nat} {F : Nat → Int} {E : Nat → Gau} (hk : ordE k = 0) (hg : 1 ≤ g ∧ g ≤ 1000000) (h1 : 1 ≤ c) (h3 : c ≤ 3) (hC : 0 < C ∧ C ≤ 200) (hF : ∀ q, q < C * (2 * c) → IsBit (F q)) : recvE k g C (rcvF g (ptF c F) E) = 0 := by
  unfold recvE
  rw [if_pos hk, if_pos (withinB_yes (by omega))]
  exact symsE_ok hC.1 hC.2 fun j hj => rcv_in hg h1 h3 hF hj
theorem pts_right {c C : Nat} {F : Nat → Int} (h1 : 1 ≤ c) (h3 : c ≤ 3) (hC : 0 < C ∧ C ≤ 200) (hF : ∀ q, q < C * (2 * c) → IsBit (F q)) : symsE C (ptF c F) = 0 :=
  symsE_ok hC.1 hC.2 fun j hj => by
    obtain ⟨a, b⟩ := ptF_le h1 h3 hF hj
    exact ⟨by omega, by omega⟩
theorem gre_near {g : Int} {c C : Nat} {F : Nat → Int} {E : Nat → Gau} (hg : 1 ≤ g ∧ g ≤ 1000000) (h1 : 1 ≤ c) (h3 : c ≤ 3) (hF : ∀ q, q < C * (2 * c) → IsBit (F q)) :
    ∃ t a, greT g C (rcvF g (ptF c F) E) C (ptF c F) = (t, a, 0) ∧ 0 ≤ t ∧ t ≤ g - 1 := by
  have hin : insideB 100000000 C (sclF g (ptF c F)) = true := insideB_iff.2 fun j hj => by
    obtain ⟨a, b⟩ := ptF_le h1 h3 hF hj
    have a2 := gl_le (g := g) ⟨hg.1, by omega⟩ a
    have b2 := gl_le (g := g) ⟨hg.1, by omega⟩ b
    have ea : (sclF g (ptF c F) j).re = g * (ptF c F j).re := Int.mul_comm _ _
    have eb : (sclF g (ptF c F) j).im = g * (ptF c F j).im := Int.mul_comm _ _
    exact ⟨by rw [ea]; omega, by rw [eb]; omega⟩
  have hz := grE_in (Z := szF g (rcvF g (ptF c F) E) (ptF c F)) (M := g - 1) (by omega) (k := C) fun j hj => by
    refine ⟨szF_low _ _ _ _, ?_⟩
    have ea : (sclF g (ptF c F) j).re = g * (ptF c F j).re := Int.mul_comm _ _
    have eb : (sclF g (ptF c F) j).im = g * (ptF c F j).im := Int.mul_comm _ _
    have xa := (err_in (g := g) (e := (E j).re) hg.1).2
    have xb := (err_in (g := g) (e := (E j).im) hg.1).2
    unfold szF
    rw [ea, eb]
    show max ((g * (ptF c F j).re + ((E j).re % (2 * g - 1) - g + 1) - g * (ptF c F j).re).natAbs : Int) ((g * (ptF c F j).im + ((E j).im % (2 * g - 1) - g + 1) - g * (ptF c F j).im).natAbs : Int) ≤ g - 1
    omega
  exact ⟨(grE (szF g (rcvF g (ptF c F) E) (ptF c F)) 0 C).1, (grE (szF g (rcvF g (ptF c F) E) (ptF c F)) 0 C).2, by unfold greT; rw [if_pos rfl, if_pos hin], hz⟩
theorem modE_right {k : Int} {c C : Nat} {F : Nat → Int} (hk : ordE k = 0) (hkc : k = 2 * (c : Int)) (hb : bitE (C * (2 * c)) F 400 = 0) : modE (2 * (c : Int)) (C * (2 * c)) F = 0 := by
  rw [hkc] at hk
  have e1 : orS (ordE (2 * (c : Int))) (bitE (C * (2 * c)) F 400) = 0 := by unfold orS; rw [if_pos hk]; exact hb
  have e2 : ((C * (2 * c) : Nat) : Int) % (2 * (c : Int)) = 0 := by
    rw [show ((C * (2 * c) : Nat) : Int) = (C : Int) * (2 * (c : Int)) by rw [Int.natCast_mul, Int.natCast_mul]; rfl]
    exact Int.mul_emod_left _ _
  unfold modE
  rw [if_pos e1, if_pos e2]
end Go.Proofs.Ytceohaeebdhmjaa
