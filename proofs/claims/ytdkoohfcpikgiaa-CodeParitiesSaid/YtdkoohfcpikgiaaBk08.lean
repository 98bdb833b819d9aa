/- Lemmas: Qg, Bs, Pa, Pb, Pf, Qh, Qi. -/
import Derived.Test.YtdkoohfcpikgiaaBk01
import Derived.Test.YtdkoohfcpikgiaaBk02
import Derived.Test.YtdkoohfcpikgiaaBk04
import Derived.Test.YtdkoohfcpikgiaaBk06
import Derived.Test.YtdkoohfcpikgiaaBk07
set_option linter.unusedVariables false
set_option linter.unusedSimpArgs false
/- CopyParity of the reference, Short of the law. -/
namespace Go.Proofs.Ytdkoohfcpikgiaa
open Go.RowKit
theorem ListsAt.other {w : World} {lo n : Nat} {A : Option Addr} {L : Nat → Nat} {F : Nat → Nat → Int} (h : ListsAt w lo A n L F) {p : Addr} (hp : p.block < lo) (u : Value) : ListsAt (w.setCell p u) lo A n L F := fun i hi => by
  obtain ⟨b, o, Ai, ci, e, h1, h2, h3, h4, h5, h6⟩ := h i hi
  exact ⟨b, o, Ai, ci, e, h1, by simpa [World.setCell] using h2, (World.cell?_setCell_other w p ⟨b, o + i, none⟩ u (fun e => by subst e; simp at hp; omega)).trans h3, h4, h5, h6.other hp u⟩
set_option maxHeartbeats 2000000 in
theorem copyParity_any (m : Int) (A : Option Addr) (n c : Nat) (L : Nat → Nat) (F : Nat → Nat → Int) (w : World) (hn : n ≤ 100000) (hL : ∀ i, i < n → L i ≤ 100000) (hI : ListsAt w 0 A n L F) :
    Calls Try.prog 9 #[.agg #[.int .i64 m, .slice A n c]] w fun e w' => ∃ A' c', e = .returned (.agg #[.int .i64 m, .slice A' n c']) ∧ n ≤ c' ∧ c' ≤ 9223372036854775807 ∧ ListsAt w' w.heap.size A' n L F ∧ Below w.heap.size w w' := by
  have HI := hide hI
  have HL := hide hL
  clear hI hL
  go_enter Try.func9, Try.ntmps9
  go_wp2_with fail
  generalize hW : World.alloc (World.alloc w _) _ = W
  have bx : Box W w.heap.size 24 #[.int .i64 m, .slice A n c] := by rw [← hW]; exact (Box.made rfl).alloc _
  have by' : Box W (w.heap.size + 1) 24 #[.int .i64 0, .slice none 0 0] := by rw [← hW]; exact Box.made (by simp)
  have hB : Below w.heap.size w W := by rw [← hW]; exact ((Below.refl _ _).alloc (Nat.le_refl _) _).alloc (by simp) _
  clear hW
  have x0 : W.cell? ⟨w.heap.size, 0, none⟩ = some (.int .i64 m) := bx.at_ 0
  have x1 : W.cell? ⟨w.heap.size, 1, none⟩ = some (.slice A n c) := bx.at_ 1
  have hz : w.heap.size + 1 + 1 ≤ W.heap.size := by'.lt
  have BY := hide by'
  have HBB := hide hB
  have SOF := hide (fun W' (h : Below (w.heap.size + 1) W W') => (⟨(h.cell (p := ⟨w.heap.size, 0, none⟩) (by simp)).trans x0, (h.cell (p := ⟨w.heap.size, 1, none⟩) (by simp)).trans x1, h⟩ :
     W'.cell? ⟨w.heap.size, 0, none⟩ = some (.int .i64 m) ∧ W'.cell? ⟨w.heap.size, 1, none⟩ = some (.slice A n c) ∧ Below (w.heap.size + 1) W W'))
  have KI := hide (fun W' (h : W'.cell? ⟨w.heap.size, 0, none⟩ = some (.int .i64 m) ∧ W'.cell? ⟨w.heap.size, 1, none⟩ = some (.slice A n c) ∧ Below (w.heap.size + 1) W W') => HI.out.below (hB.trans (h.2.2.mono (by omega))))
  have b0 : Below (w.heap.size + 1) W W := Below.refl _ _
  clear x0 x1 hB by'
  go_region_held3 (fun w' => w'.cell? ⟨w.heap.size, 0, none⟩ = some (.int .i64 m) ∧ w'.cell? ⟨w.heap.size, 1, none⟩ = some (.slice A n c) ∧ Below (w.heap.size + 1) W w')
      (first | assumption | exact SOF.out _ (by assumption) | exact SOF.out _ b0.drew | exact SOF.out _ (hs2.setCell (by simp) _) | exact SOF.out _ ((hs2.setCell (by simp) _).setCell (by simp) _))
      (first
        | (go_at_call 31; refine (copyLists_any A n c L F _ hn HL.out (KI.out _ (by assumption))).mono ?_; rintro e w2 ⟨v2, rfl, hown2, hb2⟩; obtain ⟨A2, c2, rfl, hc2, hc29, hI2⟩ := hown2.form; have hs2 : Below (w.heap.size + 1) W w2 := bstepG hb2 (by assumption) (by omega); have hy2 := BY.out.below (below_of_drew hb2); have y0 := hy2.at_ 0; have y1 := hy2.at_ 1; have yf0 := hy2.free 0; have yf1 := hy2.free 1; have yl := hy2.lt))
  go_wp2_with fail
  refine bodyPost_ret (v := .agg #[.int .i64 m, .slice A2 n c2]) ?_ rfl ⟨A2, c2, rfl, hc2, hc29, ?_, ?_⟩
  · have z0 := ((hy2.set_ 0 (.int .i64 m)).set_ 1 (.slice A2 n c2)).at_ 0
    have z1 := ((hy2.set_ 0 (.int .i64 m)).set_ 1 (.slice A2 n c2)).at_ 1
    simp at z0 z1
    simp [results, Try.results9, go_sem, z0, z1]
  · have h := hI2.weak (show w.heap.size + 1 + 1 ≤ _ from hz)
    exact ((h.other (p := ⟨w.heap.size + 1, 0, none⟩) (by simp) _).other (p := ⟨w.heap.size + 1, 1, none⟩) (by simp) _).weak (by omega)
  · have hB2 : Below w.heap.size w w2 := HBB.out.trans (hs2.mono (by omega))
    exact (hB2.setCell (by simp) _).setCell (by simp) _
/-- At most 6 rows, or a few more than too many, of at most 10 positions. -/
def shortB (n : Nat) (L : Nat → Nat) : Bool := !(decide (6 < n) && decide (n ≤ 20)) && !decide (22 < n) && (List.range n).all fun i => decide (L i ≤ 10)
theorem shortB_iff {n : Nat} {L : Nat → Nat} : shortB n L = true ↔ (n ≤ 6 ∨ 20 < n ∧ n ≤ 22) ∧ ∀ i, i < n → L i ≤ 10 := by
  unfold shortB
  simp only [Bool.and_eq_true, Bool.not_eq_true', List.all_eq_true, List.mem_range, decide_eq_true_eq, Bool.and_eq_false_iff, decide_eq_false_iff_not]
  constructor
  · rintro ⟨⟨h1, h2⟩, h3⟩
    exact ⟨by omega, h3⟩
  · rintro ⟨h1, h3⟩
    exact ⟨⟨by omega, by omega⟩, h3⟩
set_option maxHeartbeats 2000000 in
theorem short_any (m : Int) (A : Option Addr) (n c : Nat) (L : Nat → Nat) (F : Nat → Nat → Int) (w : World) (hn : n ≤ 9223372036854775807) (hI : ListsAt w 0 A n L F) :
    Calls Try.prog 6 #[.agg #[.int .i64 m, .slice A n c]] w fun e w' => e = .returned (.bool (shortB n L)) ∧ Below w.heap.size w w' := by
  have HI := hide hI
  clear hI
  obtain ⟨X, hX⟩ : ∃ X, X = shortB n L := ⟨_, rfl⟩
  rw [← hX]
  have HX := hide hX
  clear hX
  by_cases h1 : 6 < n ∧ n ≤ 20
  · have HE := hide (show X = false from by rw [HX.out, ← Bool.not_eq_true, shortB_iff]; omega)
    have t1 : decide ((6 : Int) < (n : Int)) = true := decide_eq_true (by omega)
    have t2 : decide ((n : Int) ≤ (20 : Int)) = true := decide_eq_true (by omega)
    have t1' : decide (6 < n) = true := decide_eq_true h1.1
    have t2' : decide (n ≤ 20) = true := decide_eq_true h1.2
    clear h1 HX
    go_enter Try.func6, Try.ntmps6
    go_wp2_with fail
    go_ret
    exact ⟨ret_bool HE.out.symm, by (repeat (first | (with_reducible exact Below.refl _ _) | (with_reducible refine below_drewN ?_ _) | (with_reducible refine Below.drew ?_) | (with_reducible refine Below.alloc ?_ (by first | exact Nat.le_refl _ | (simp; done) | (simp; omega) | omega) _) | (with_reducible refine Below.setCell ?_ (by first | exact Nat.le_refl _ | (simp; done) | (simp; omega) | omega) _)))⟩
  by_cases h2 : 22 < n
  · have HE := hide (show X = false from by rw [HX.out, ← Bool.not_eq_true, shortB_iff]; omega)
    have t1 : decide ((6 : Int) < (n : Int)) = true := decide_eq_true (by omega)
    have t2 : decide ((n : Int) ≤ (20 : Int)) = false := decide_eq_false (by omega)
    have t3 : decide ((22 : Int) < (n : Int)) = true := decide_eq_true (by omega)
    have t1' : decide (6 < n) = true := decide_eq_true (by omega)
    have t2' : decide (n ≤ 20) = false := decide_eq_false (by omega)
    have t3' : decide (22 < n) = true := decide_eq_true (by omega)
    clear h1 h2 HX
    go_enter Try.func6, Try.ntmps6
    go_wp2_with fail
    go_ret
    exact ⟨ret_bool HE.out.symm, by (repeat (first | (with_reducible exact Below.refl _ _) | (with_reducible refine below_drewN ?_ _) | (with_reducible refine Below.drew ?_) | (with_reducible refine Below.alloc ?_ (by first | exact Nat.le_refl _ | (simp; done) | (simp; omega) | omega) _) | (with_reducible refine Below.setCell ?_ (by first | exact Nat.le_refl _ | (simp; done) | (simp; omega) | omega) _)))⟩
  have HE := hide (show X = true ↔ ∀ i, i < n → L i ≤ 10 from by rw [HX.out, shortB_iff]; exact ⟨fun h => h.2, fun h => ⟨by omega, h⟩⟩)
  have t3 : decide ((22 : Int) < (n : Int)) = false := decide_eq_false (by omega)
  have t3' : decide (22 < n) = false := decide_eq_false h2
  have hn22 : n ≤ 22 := by omega
  have t0 : (decide ((6 : Int) < (n : Int)) = false) ∨ (decide ((6 : Int) < (n : Int)) = true ∧ decide ((n : Int) ≤ (20 : Int)) = false) := by
    by_cases h6 : 6 < n
    · exact .inr ⟨decide_eq_true (by omega), decide_eq_false (by omega)⟩
    · exact .inl (decide_eq_false (by omega))
  have t0' : (decide (6 < n) = false) ∨ (decide (6 < n) = true ∧ decide (n ≤ 20) = false) := by
    by_cases h6 : 6 < n
    · exact .inr ⟨decide_eq_true (by omega), decide_eq_false (by omega)⟩
    · exact .inl (decide_eq_false (by omega))
  clear h1 h2 HX hn
  rcases t0 with t0 | ⟨t0, t1⟩ <;> rcases t0' with t0' | ⟨t0', t1'⟩
  all_goals
    go_enter Try.func6, Try.ntmps6
    go_wp2_with fail
    go_loopw [3] (fun i wr => ∃ k : Nat, k ≤ n ∧ i = .int .i64 k ∧ Hid (∀ j, j < k → L j ≤ 10) ∧ Box wr w.heap.size 24 #[.int .i64 m, .slice A n c] ∧ Below w.heap.size w wr) (fun i _ => n - (intOf i).toNat)
    case atStart => exact ⟨0, Nat.zero_le _, rfl, hide fun j h => absurd h (Nat.not_lt_zero _), Box.made rfl, by (repeat (first | (with_reducible exact Below.refl _ _) | (with_reducible refine below_drewN ?_ _) | (with_reducible refine Below.drew ?_) | (with_reducible refine Below.alloc ?_ (by first | exact Nat.le_refl _ | (simp; done) | (simp; omega) | omega) _) | (with_reducible refine Below.setCell ?_ (by first | exact Nat.le_refl _ | (simp; done) | (simp; omega) | omega) _)))⟩
    case round =>
      obtain ⟨k, hk, rfl, HZ, bx, hB⟩ := hrel
      obtain ⟨z0, z1, hlz⟩ := par_cells bx
      by_cases hlt : k < n
      · have hltz : (k : Int) < (n : Int) := by omega
        obtain ⟨b, o, Ai, ci, rfl, -, hb, hcell, hlc, hc9, hIk⟩ := (HI.out.below hB) k hlt
        clear hIk
        by_cases hl : 10 < L k
        · have t4 : decide ((10 : Int) < (L k : Int)) = true := decide_eq_true (by omega)
          have t4' : decide (10 < L k) = true := decide_eq_true hl
          have HQ := hide (show X = false from by
            rw [← Bool.not_eq_true]
            intro h
            have := HE.out.1 h k hlt
            omega)
          clear hl
          go_wp2_with fail
          go_ret
          exact ⟨ret_bool HQ.out.symm, by first | exact hB | exact hB.drew | exact below_drewN hB _⟩
        · have t4 : decide ((10 : Int) < (L k : Int)) = false := decide_eq_false (by omega)
          have t4' : decide (10 < L k) = false := decide_eq_false hl
          have HN := hide (fun j (hj : j < k + 1) => (by
            rcases Nat.lt_or_ge j k with e | e
            · exact HZ.out j e
            · obtain rfl : j = k := by omega
              omega : L j ≤ 10))
          clear hl
          go_wp2_with fail
          go_roundw
          case rel => exact ⟨k + 1, by omega, by go_num, HN, bx, hB⟩
          case measure => simp [intOf]; omega
      · obtain rfl : k = n := by omega
        have HQ := hide (HE.out.2 HZ.out)
        go_wp2_with fail
        go_ret
        exact ⟨ret_bool HQ.out.symm, hB⟩
end Go.Proofs.Ytdkoohfcpikgiaa
/- A step of a held region: what a call made, behind N facts and Below. -/
namespace Go.Proofs.Ytdkoohfcpikgiaa
open Go.RowKit
theorem bst0 {B : Nat} {w1 W w2 : World} (hb : Below W.heap.size W w2) (h : Below B w1 W) (hB : B ≤ w1.heap.size) : Below B w1 w2 := h.trans (hb.mono (Nat.le_trans hB h.size))
theorem bst1 {B : Nat} {w1 W w2 : World} {p0 : Prop} (hb : Below W.heap.size W w2) (h : p0 ∧ Below B w1 W) (hB : B ≤ w1.heap.size) : Below B w1 w2 := h.2.trans (hb.mono (Nat.le_trans hB h.2.size))
theorem bst2 {B : Nat} {w1 W w2 : World} {p0 p1 : Prop} (hb : Below W.heap.size W w2) (h : p0 ∧ p1 ∧ Below B w1 W) (hB : B ≤ w1.heap.size) : Below B w1 w2 := h.2.2.trans (hb.mono (Nat.le_trans hB h.2.2.size))
theorem bst3 {B : Nat} {w1 W w2 : World} {p0 p1 p2 : Prop} (hb : Below W.heap.size W w2) (h : p0 ∧ p1 ∧ p2 ∧ Below B w1 W) (hB : B ≤ w1.heap.size) : Below B w1 w2 := h.2.2.2.trans (hb.mono (Nat.le_trans hB h.2.2.2.size))
theorem bst4 {B : Nat} {w1 W w2 : World} {p0 p1 p2 p3 : Prop} (hb : Below W.heap.size W w2) (h : p0 ∧ p1 ∧ p2 ∧ p3 ∧ Below B w1 W) (hB : B ≤ w1.heap.size) : Below B w1 w2 := h.2.2.2.2.trans (hb.mono (Nat.le_trans hB h.2.2.2.2.size))
theorem bst5 {B : Nat} {w1 W w2 : World} {p0 p1 p2 p3 p4 : Prop} (hb : Below W.heap.size W w2) (h : p0 ∧ p1 ∧ p2 ∧ p3 ∧ p4 ∧ Below B w1 W) (hB : B ≤ w1.heap.size) : Below B w1 w2 := h.2.2.2.2.2.trans (hb.mono (Nat.le_trans hB h.2.2.2.2.2.size))
theorem bst6 {B : Nat} {w1 W w2 : World} {p0 p1 p2 p3 p4 p5 : Prop} (hb : Below W.heap.size W w2) (h : p0 ∧ p1 ∧ p2 ∧ p3 ∧ p4 ∧ p5 ∧ Below B w1 W) (hB : B ≤ w1.heap.size) : Below B w1 w2 := h.2.2.2.2.2.2.trans (hb.mono (Nat.le_trans hB h.2.2.2.2.2.2.size))
theorem bst7 {B : Nat} {w1 W w2 : World} {p0 p1 p2 p3 p4 p5 p6 : Prop} (hb : Below W.heap.size W w2) (h : p0 ∧ p1 ∧ p2 ∧ p3 ∧ p4 ∧ p5 ∧ p6 ∧ Below B w1 W) (hB : B ≤ w1.heap.size) : Below B w1 w2 := h.2.2.2.2.2.2.2.trans (hb.mono (Nat.le_trans hB h.2.2.2.2.2.2.2.size))
theorem bst8 {B : Nat} {w1 W w2 : World} {p0 p1 p2 p3 p4 p5 p6 p7 : Prop} (hb : Below W.heap.size W w2) (h : p0 ∧ p1 ∧ p2 ∧ p3 ∧ p4 ∧ p5 ∧ p6 ∧ p7 ∧ Below B w1 W) (hB : B ≤ w1.heap.size) : Below B w1 w2 := h.2.2.2.2.2.2.2.2.trans (hb.mono (Nat.le_trans hB h.2.2.2.2.2.2.2.2.size))
theorem bst9 {B : Nat} {w1 W w2 : World} {p0 p1 p2 p3 p4 p5 p6 p7 p8 : Prop} (hb : Below W.heap.size W w2) (h : p0 ∧ p1 ∧ p2 ∧ p3 ∧ p4 ∧ p5 ∧ p6 ∧ p7 ∧ p8 ∧ Below B w1 W) (hB : B ≤ w1.heap.size) : Below B w1 w2 := h.2.2.2.2.2.2.2.2.2.trans (hb.mono (Nat.le_trans hB h.2.2.2.2.2.2.2.2.2.size))
theorem bst10 {B : Nat} {w1 W w2 : World} {p0 p1 p2 p3 p4 p5 p6 p7 p8 p9 : Prop} (hb : Below W.heap.size W w2) (h : p0 ∧ p1 ∧ p2 ∧ p3 ∧ p4 ∧ p5 ∧ p6 ∧ p7 ∧ p8 ∧ p9 ∧ Below B w1 W) (hB : B ≤ w1.heap.size) : Below B w1 w2 := h.2.2.2.2.2.2.2.2.2.2.trans (hb.mono (Nat.le_trans hB h.2.2.2.2.2.2.2.2.2.2.size))
theorem bst11 {B : Nat} {w1 W w2 : World} {p0 p1 p2 p3 p4 p5 p6 p7 p8 p9 p10 : Prop} (hb : Below W.heap.size W w2) (h : p0 ∧ p1 ∧ p2 ∧ p3 ∧ p4 ∧ p5 ∧ p6 ∧ p7 ∧ p8 ∧ p9 ∧ p10 ∧ Below B w1 W) (hB : B ≤ w1.heap.size) : Below B w1 w2 := h.2.2.2.2.2.2.2.2.2.2.2.trans (hb.mono (Nat.le_trans hB h.2.2.2.2.2.2.2.2.2.2.2.size))
theorem bst12 {B : Nat} {w1 W w2 : World} {p0 p1 p2 p3 p4 p5 p6 p7 p8 p9 p10 p11 : Prop} (hb : Below W.heap.size W w2) (h : p0 ∧ p1 ∧ p2 ∧ p3 ∧ p4 ∧ p5 ∧ p6 ∧ p7 ∧ p8 ∧ p9 ∧ p10 ∧ p11 ∧ Below B w1 W) (hB : B ≤ w1.heap.size) : Below B w1 w2 := h.2.2.2.2.2.2.2.2.2.2.2.2.trans (hb.mono (Nat.le_trans hB h.2.2.2.2.2.2.2.2.2.2.2.2.size))
theorem bst13 {B : Nat} {w1 W w2 : World} {p0 p1 p2 p3 p4 p5 p6 p7 p8 p9 p10 p11 p12 : Prop} (hb : Below W.heap.size W w2) (h : p0 ∧ p1 ∧ p2 ∧ p3 ∧ p4 ∧ p5 ∧ p6 ∧ p7 ∧ p8 ∧ p9 ∧ p10 ∧ p11 ∧ p12 ∧ Below B w1 W) (hB : B ≤ w1.heap.size) : Below B w1 w2 := h.2.2.2.2.2.2.2.2.2.2.2.2.2.trans (hb.mono (Nat.le_trans hB h.2.2.2.2.2.2.2.2.2.2.2.2.2.size))
theorem bst14 {B : Nat} {w1 W w2 : World} {p0 p1 p2 p3 p4 p5 p6 p7 p8 p9 p10 p11 p12 p13 : Prop} (hb : Below W.heap.size W w2) (h : p0 ∧ p1 ∧ p2 ∧ p3 ∧ p4 ∧ p5 ∧ p6 ∧ p7 ∧ p8 ∧ p9 ∧ p10 ∧ p11 ∧ p12 ∧ p13 ∧ Below B w1 W) (hB : B ≤ w1.heap.size) : Below B w1 w2 := h.2.2.2.2.2.2.2.2.2.2.2.2.2.2.trans (hb.mono (Nat.le_trans hB h.2.2.2.2.2.2.2.2.2.2.2.2.2.2.size))
theorem bst15 {B : Nat} {w1 W w2 : World} {p0 p1 p2 p3 p4 p5 p6 p7 p8 p9 p10 p11 p12 p13 p14 : Prop} (hb : Below W.heap.size W w2) (h : p0 ∧ p1 ∧ p2 ∧ p3 ∧ p4 ∧ p5 ∧ p6 ∧ p7 ∧ p8 ∧ p9 ∧ p10 ∧ p11 ∧ p12 ∧ p13 ∧ p14 ∧ Below B w1 W) (hB : B ≤ w1.heap.size) : Below B w1 w2 := h.2.2.2.2.2.2.2.2.2.2.2.2.2.2.2.trans (hb.mono (Nat.le_trans hB h.2.2.2.2.2.2.2.2.2.2.2.2.2.2.2.size))
theorem bst16 {B : Nat} {w1 W w2 : World} {p0 p1 p2 p3 p4 p5 p6 p7 p8 p9 p10 p11 p12 p13 p14 p15 : Prop} (hb : Below W.heap.size W w2) (h : p0 ∧ p1 ∧ p2 ∧ p3 ∧ p4 ∧ p5 ∧ p6 ∧ p7 ∧ p8 ∧ p9 ∧ p10 ∧ p11 ∧ p12 ∧ p13 ∧ p14 ∧ p15 ∧ Below B w1 W) (hB : B ≤ w1.heap.size) : Below B w1 w2 := h.2.2.2.2.2.2.2.2.2.2.2.2.2.2.2.2.trans (hb.mono (Nat.le_trans hB h.2.2.2.2.2.2.2.2.2.2.2.2.2.2.2.2.size))
theorem ballocH {B : Nat} {w1 W : World} (h : Below B w1 W) (hB : B ≤ w1.heap.size) (o : Obj) : Below B w1 (W.alloc o) := h.alloc (Nat.le_trans hB h.size) o
theorem quiet_ex {P : Program} {f : FuncId} {args : Array Value} {w : World} {n : Nat} {v : Value}
    (h : Calls P f args (w.drewN n) fun e w' => e = .returned v ∧ ∃ q, w' = (w.drewN n).drewN q) :
    Calls P f args (w.drewN n) fun e w'' => e = .returned v ∧ ∃ m, w'' = w.drewN m :=
  h.mono fun _ _ ⟨he, q, hq⟩ => ⟨he, n + q, by rw [hq, World.drewN_drewN]⟩
end Go.Proofs.Ytdkoohfcpikgiaa
/- A buffer's error, of the code and of the reference. -/
namespace Go.Proofs.Ytdkoohfcpikgiaa
open Go.RowKit Go.Shelf
/-- Are these numbers all 0? -/
def zeroB (n : Nat) (S : Nat → Int) : Bool := (List.range n).all fun k => S k == 0
theorem zeroB_iff {n : Nat} {S : Nat → Int} : zeroB n S = true ↔ ∀ k, k < n → S k = 0 := by simp [zeroB]
theorem sized_zero (n : Nat) (S : Nat → Int) : sizedB n S 0 = zeroB n S := by
  rw [Bool.eq_iff_iff, sizedB_iff, zeroB_iff]
  exact ⟨fun h k hk => by have := h k hk; omega, fun h k hk => by have := h k hk; omega⟩
/-- The error of a buffer (its toggle, its count, l soft bits S), where a buffer has that many. -/
def procErrI (len t k : Int) (l : Nat) (S : Nat → Int) : Int :=
  if withinB t (-1) 1 = false then 2 else if withinB k 0 1000000000 = false then 2 else if ((t == -1) == (k == 0)) = false then 22 else if (l : Int) ≠ len then 10 else if sizedB l S 1000000000 = false then 2
  else if k = 0 ∧ zeroB l S = false then 22 else 0
theorem areWithin_sized (A : Option Addr) (n c : Nat) (F : Nat → Int) (m : Int) (w : World) (hn : n ≤ 100000) (hI : IntsAt w 0 A n F) (h0 : 0 ≤ m) (h9 : m ≤ 1000000000000) :
    Calls Try.prog 59 #[.slice A n c, .int .i64 m] w fun e w' => e = .returned (.bool (sizedB n F m)) ∧ Below w.heap.size w w' := by
  have h := areWithin_any A n c F m w hn hI (by omega) (by omega)
  exact h
end Go.Proofs.Ytdkoohfcpikgiaa
/- Buffers in memory, and their error, of the code. -/
namespace Go.Proofs.Ytdkoohfcpikgiaa
open Go.RowKit Go.Shelf
/-- A slice of n buffers: toggles T, counts K, L soft bits S each. -/
def ProcsAt (w : World) (lo : Nat) (A : Option Addr) (n : Nat) (T K : Nat → Int) (L : Nat → Nat) (S : Nat → Nat → Int) : Prop :=
  ∀ i, i < n → ∃ b o Ai ci, A = some ⟨b, o, none⟩ ∧ lo ≤ b ∧ b < w.heap.size ∧ w.cell? ⟨b, o + i * 3, none⟩ = some (.int .i64 (T i)) ∧ w.cell? ⟨b, o + i * 3 + 1, none⟩ = some (.int .i64 (K i)) ∧ w.cell? ⟨b, o + i * 3 + 2, none⟩ = some (.slice Ai (L i) ci) ∧ IntsAt w lo Ai (L i) (S i)
section
variable {w w' : World} {lo n : Nat} {A : Option Addr} {T K : Nat → Int} {L : Nat → Nat} {S : Nat → Nat → Int}
theorem ProcsAt.nil_ : ProcsAt w lo A 0 T K L S := fun i h => absurd h (Nat.not_lt_zero i)
theorem ProcsAt.below (h : ProcsAt w lo A n T K L S) (hb : Below w.heap.size w w') : ProcsAt w' lo A n T K L S := fun i hi => by
  obtain ⟨b, o, Ai, ci, e, h1, h2, h3, h4, h5, h8⟩ := h i hi
  exact ⟨b, o, Ai, ci, e, h1, Nat.lt_of_lt_of_le h2 hb.size, (hb.cell (p := ⟨b, _, none⟩) h2).trans h3, (hb.cell (p := ⟨b, _, none⟩) h2).trans h4, (hb.cell (p := ⟨b, _, none⟩) h2).trans h5, h8.below hb⟩
theorem ProcsAt.alloc (h : ProcsAt w lo A n T K L S) (x : Obj) : ProcsAt (w.alloc x) lo A n T K L S := h.below ((Below.refl _ _).alloc (Nat.le_refl _) _)
theorem ProcsAt.drewN (h : ProcsAt w lo A n T K L S) (m : Nat) : ProcsAt (w.drewN m) lo A n T K L S := h
theorem ProcsAt.weak {lo' : Nat} (h : ProcsAt w lo A n T K L S) (hl : lo' ≤ lo) : ProcsAt w lo' A n T K L S := fun i hi => by
  obtain ⟨b, o, Ai, ci, e, h1, h2, h3, h4, h5, h8⟩ := h i hi
  exact ⟨b, o, Ai, ci, e, Nat.le_trans hl h1, h2, h3, h4, h5, h8.weak hl⟩
end
def procsErrI (len : Int) (n : Nat) (T K : Nat → Int) (L : Nat → Nat) (S : Nat → Nat → Int) : Int := firstBad (fun i => procErrI len (T i) (K i) (L i) (S i)) n
/-- The error of buffers. -/
def bufErrI (len : Int) (n : Nat) (T K : Nat → Int) (L : Nat → Nat) (S : Nat → Nat → Int) : Int :=
  if withinB len 1 200 = false then 2 else if n = 0 then 10 else if 8 < n then 8 else procsErrI len n T K L S
end Go.Proofs.Ytdkoohfcpikgiaa
/- Buffers of the call's own: cells, appending, and slices.Clone. -/
namespace Go.Proofs.Ytdkoohfcpikgiaa
open Go.RowKit Go.Shelf Go.Lib
def procCell (T K : Nat → Int) (L : Nat → Nat) (A : Nat → Option Addr) (C : Nat → Nat) (j : Nat) : Value := if j % 3 = 0 then .int .i64 (T (j / 3)) else if j % 3 = 1 then .int .i64 (K (j / 3)) else .slice (A (j / 3)) (L (j / 3)) (C (j / 3))
def procVals (n : Nat) (T K : Nat → Int) (L : Nat → Nat) (A : Nat → Option Addr) (C : Nat → Nat) : List Value := (List.range (n * 3)).map (procCell T K L A C)
def catA {α : Type} (n : Nat) (f g : Nat → α) (j : Nat) : α := if j < n then f j else g (j - n)
theorem procVals_len (n : Nat) (T K : Nat → Int) (L : Nat → Nat) (A : Nat → Option Addr) (C : Nat → Nat) : (procVals n T K L A C).length = n * 3 := by simp [procVals]
theorem procVals_get (n : Nat) (T K : Nat → Int) (L : Nat → Nat) (A : Nat → Option Addr) (C : Nat → Nat) (j : Nat) : (procVals n T K L A C)[j]? = if j < n * 3 then some (procCell T K L A C j) else none := by
  unfold procVals
  by_cases h : j < n * 3
  · rw [if_pos h]; simp [h]
  · rw [if_neg h, List.getElem?_eq_none (by simp; omega)]
theorem procVals_cat (n m : Nat) (T K T' K' : Nat → Int) (L L' : Nat → Nat) (A A' : Nat → Option Addr) (C C' : Nat → Nat) : procVals n T K L A C ++ procVals m T' K' L' A' C' = procVals (n + m) (catA n T T') (catA n K K') (catA n L L') (catA n A A') (catA n C C') := by
  apply List.ext_getElem?
  intro j
  rw [procVals_get]
  by_cases h : j < n * 3
  · rw [List.getElem?_append_left (by rw [procVals_len]; exact h), procVals_get, if_pos h, if_pos (by omega)]
    unfold procCell catA
    rw [if_pos (show j / 3 < n by omega), if_pos (show j / 3 < n by omega), if_pos (show j / 3 < n by omega), if_pos (show j / 3 < n by omega), if_pos (show j / 3 < n by omega)]
  · rw [List.getElem?_append_right (by rw [procVals_len]; omega), procVals_len, procVals_get]
    by_cases h2 : j < (n + m) * 3
    · rw [if_pos (by omega), if_pos h2]
      unfold procCell catA
      rw [if_neg (show ¬ j / 3 < n by omega), if_neg (show ¬ j / 3 < n by omega), if_neg (show ¬ j / 3 < n by omega), if_neg (show ¬ j / 3 < n by omega), if_neg (show ¬ j / 3 < n by omega), show (j - n * 3) % 3 = j % 3 by omega, show (j - n * 3) / 3 = j / 3 - n by omega]
    · rw [if_neg (by omega), if_neg h2]
/-- Buffers at known places: what ProcsAt says, with the slices' own addresses and room. -/
def ProcsIn (w : World) (lo : Nat) (D : Option Addr) (n : Nat) (T K : Nat → Int) (L : Nat → Nat) (A : Nat → Option Addr) (C : Nat → Nat) (S : Nat → Nat → Int) : Prop :=
  ∀ i, i < n → ∃ b o, D = some ⟨b, o, none⟩ ∧ lo ≤ b ∧ b < w.heap.size ∧ w.cell? ⟨b, o + i * 3, none⟩ = some (.int .i64 (T i)) ∧ w.cell? ⟨b, o + i * 3 + 1, none⟩ = some (.int .i64 (K i)) ∧ w.cell? ⟨b, o + i * 3 + 2, none⟩ = some (.slice (A i) (L i) (C i)) ∧ IntsAt w lo (A i) (L i) (S i)
theorem ProcsIn.at_ {w : World} {lo n : Nat} {D : Option Addr} {T K : Nat → Int} {L : Nat → Nat} {A : Nat → Option Addr} {C : Nat → Nat} {S : Nat → Nat → Int} (h : ProcsIn w lo D n T K L A C S) : ProcsAt w lo D n T K L S := fun i hi => by
  obtain ⟨b, o, h1, h2, h3, h4, h5, h6, h7⟩ := h i hi
  exact ⟨b, o, A i, C i, h1, h2, h3, h4, h5, h6, h7⟩
theorem ProcsAt.pick {w : World} {lo n : Nat} {D : Option Addr} {T K : Nat → Int} {L : Nat → Nat} {S : Nat → Nat → Int} (h : ProcsAt w lo D n T K L S) : ∃ A C, ProcsIn w lo D n T K L A C S := by
  have h' : ∀ i, ∃ x : Option Addr × Nat, i < n → ∃ b o, D = some ⟨b, o, none⟩ ∧ lo ≤ b ∧ b < w.heap.size ∧ w.cell? ⟨b, o + i * 3, none⟩ = some (.int .i64 (T i)) ∧ w.cell? ⟨b, o + i * 3 + 1, none⟩ = some (.int .i64 (K i)) ∧ w.cell? ⟨b, o + i * 3 + 2, none⟩ = some (.slice x.1 (L i) x.2) ∧ IntsAt w lo x.1 (L i) (S i) := fun i => by
    by_cases hi : i < n
    · obtain ⟨b, o, Ai, ci, h1, h2, h3, h4, h5, h6, h7⟩ := h i hi
      exact ⟨(Ai, ci), fun _ => ⟨b, o, h1, h2, h3, h4, h5, h6, h7⟩⟩
    · exact ⟨(none, 0), fun h => absurd h hi⟩
  obtain ⟨f, hf⟩ := Classical.axiomOfChoice h'
  exact ⟨fun i => (f i).1, fun i => (f i).2, fun i hi => hf i hi⟩
section
variable {w w' : World} {base lo n : Nat} {v : Value} {T K : Nat → Int} {L : Nat → Nat} {A : Nat → Option Addr} {C : Nat → Nat} {S : Nat → Nat → Int}
end
theorem catA_zero {α : Type} (f g : Nat → α) : catA 0 f g = g := by
  funext j
  unfold catA
  rw [if_neg (Nat.not_lt_zero j), Nat.sub_zero]
theorem OwnInts.empty (w : World) (g : Nat) (hg : g = w.heap.size) (F : Nat → Int) : OwnInts (w.alloc (.cells #[] 3)) w.heap.size (.slice (some ⟨g, 0, none⟩) 0 0) 0 F := by
  subst hg
  exact World.ownsRow_made w #[] 0 (Nat.le_refl _) (by decide) rfl
set_option maxHeartbeats 1000000 in
set_option maxRecDepth 100000 in
theorem cloneInts_any (b o n c : Nat) (F : Nat → Int) (w : World) (hn : n ≤ 100000) (hI : IntsAt w 0 (some ⟨b, o, none⟩) n F) :
    Calls Try.prog 36 #[.slice (some ⟨b, o, none⟩) n c] w fun r w' => ∃ v, r = .returned v ∧ OwnInts w' w.heap.size v n F ∧ Below w.heap.size w w' := by
  have HI := hide (hI.alloc (.cells #[] 3))
  have HE := hide (OwnInts.empty w _ rfl F)
  clear hI
  have hnil := fun (W : World) (b o n c : Nat) => Lib.run_eql_slice_nil (P := Try.prog) W 25 3 (some ⟨b, o, none⟩) n c 0 0 Try.underlying25
  simp only [Option.isNone_some] at hnil
  go_enter Try.func36, Try.ntmps36
  go_wp2_with (at_builtin; refine wpList_append_ints _ rfl (.tmp 5) (.tmp 6) rfl w.heap.size 0 (.slice (some ⟨w.heap.size, 0, none⟩) 0 0) 0 F rfl HE.out (some ⟨b, o, none⟩) n c F rfl HI.out (by omega) (by simp) ?_; intro v' w' h1 hb2)
  go_ret
  refine ⟨_, rfl, ?_, ((Below.refl _ _).alloc (Nat.le_refl _) _).trans hb2⟩
  rw [Nat.zero_add] at h1
  exact h1.congr fun j hj => by unfold catF; rw [if_neg (Nat.not_lt_zero j), Nat.sub_zero]
end Go.Proofs.Ytdkoohfcpikgiaa
/- wordError, EncodeParity, Failed of the code. -/
namespace Go.Proofs.Ytdkoohfcpikgiaa
open Go.RowKit
/-- The first of three errors, the third one 10 unless q. -/
def threeE (p b : Int) (q : Bool) : Int := if p = 0 then (if b = 0 then unI q 10 else b) else p
theorem firstE_three (p b : Int) (q : Bool) : firstE [p, b, unI q 10] = threeE p b q := by
  unfold threeE firstE
  by_cases hp : p = 0
  · rw [if_pos hp, if_pos hp]
    unfold firstE
    by_cases hb : b = 0
    · rw [if_pos hb, if_pos hb]
      unfold firstE
      by_cases hq : unI q 10 = 0
      · rw [if_pos hq, hq]; rfl
      · rw [if_neg hq]
    · rw [if_neg hb, if_neg hb]
  · rw [if_neg hp, if_neg hp]
theorem threeE_zero {p b : Int} {q : Bool} : threeE p b q = 0 ↔ p = 0 ∧ b = 0 ∧ q = true := by
  unfold threeE unI
  by_cases hp : p = 0
  · by_cases hb : b = 0
    · cases q <;> simp [hp, hb]
    · simp [hp, hb]
  · simp [hp]
def wordErrI (m : Int) (n : Nat) (L : Nat → Nat) (R : Nat → Nat → Int) (N : Nat) (X : Nat → Int) : Int := threeE (parErrI m n L R) (bitsErrR N X) ((N : Int) == m + n)
def encErrI (m : Int) (n : Nat) (L : Nat → Nat) (R : Nat → Nat → Int) (N : Nat) (X : Nat → Int) : Int := threeE (parErrI m n L R) (bitsErrR N X) ((N : Int) == m)
theorem wordErr_wrap (m : Int) (n : Nat) (L : Nat → Nat) (R : Nat → Nat → Int) (N : Nat) (X : Nat → Int) : firstE [parErrI m n L R, bitsErrR N X, unI ((N : Int) == IntKind.i64.wrap (m + n)) 10] = wordErrI m n L R N X := by
  rw [firstE_three]
  unfold wordErrI
  by_cases hp : parErrI m n L R = 0
  · obtain ⟨h1, hok⟩ := parOk_of hp
    have h2 := hok.most
    have h3 := hok.rows
    rw [show IntKind.i64.wrap (m + (n : Int)) = m + (n : Int) from IntWalk.i64_in _ (by omega)]
  · unfold threeE
    rw [if_neg hp, if_neg hp]
set_option maxHeartbeats 2000000 in
theorem wordError_any (m : Int) (A C : Option Addr) (n c N d : Nat) (L : Nat → Nat) (R : Nat → Nat → Int) (X : Nat → Int) (w : World) (hn : n ≤ 9223372036854775807) (hN : N ≤ 100000) (hI : ListsAt w 0 A n L R) (hX : IntsAt w 0 C N X) :
    Calls Try.prog 38 #[.agg #[.int .i64 m, .slice A n c], .slice C N d] w fun e w' => e = .returned (.int .i64 (wordErrI m n L R N X)) ∧ Below w.heap.size w w' := by
  have HI := hide hI
  have HX := hide hX
  have HE := hide (wordErr_wrap m n L R N X)
  clear hI hX
  generalize wordErrI m n L R N X = V at *
  go_enter Try.func38, Try.ntmps38
  go_wp2_with fail
  generalize hW : World.alloc w _ = W
  have bx : Box W w.heap.size 24 #[.int .i64 m, .slice A n c] := by rw [← hW]; exact Box.made rfl
  have hB : Below w.heap.size w W := by rw [← hW]; exact (Below.refl _ _).alloc (Nat.le_refl _) _
  have HIW := hide (HI.out.below hB)
  have HXW := hide (HX.out.below hB)
  clear hW
  obtain ⟨z0, z1, hlz⟩ := par_cells bx
  have SOF := hide (fun W' (h : Below W.heap.size W W') => (⟨(h.cell (p := ⟨w.heap.size, 0, none⟩) hlz).trans z0, (h.cell (p := ⟨w.heap.size, 1, none⟩) hlz).trans z1, h⟩ : W'.cell? ⟨w.heap.size, 0, none⟩ = some (.int .i64 m) ∧ W'.cell? ⟨w.heap.size, 1, none⟩ = some (.slice A n c) ∧ Below W.heap.size W W'))
  have KI := hide (fun W' (h : W'.cell? ⟨w.heap.size, 0, none⟩ = some (.int .i64 m) ∧ W'.cell? ⟨w.heap.size, 1, none⟩ = some (.slice A n c) ∧ Below W.heap.size W W') => HIW.out.below h.2.2)
  have KX := hide (fun W' (h : W'.cell? ⟨w.heap.size, 0, none⟩ = some (.int .i64 m) ∧ W'.cell? ⟨w.heap.size, 1, none⟩ = some (.slice A n c) ∧ Below W.heap.size W W') => HXW.out.below h.2.2)
  have bb0 : Below W.heap.size W W := Below.refl _ _
  clear z0 z1
  go_region_held3 (fun w' => w'.cell? ⟨w.heap.size, 0, none⟩ = some (.int .i64 m) ∧ w'.cell? ⟨w.heap.size, 1, none⟩ = some (.slice A n c) ∧ Below W.heap.size W w')
    (first | assumption | exact SOF.out _ (by assumption) | exact SOF.out _ bb0.drew | exact SOF.out _ (below_drewN (by assumption) _) | exact SOF.out _ (ballocH (by assumption) (Nat.le_refl _) _) | exact SOF.out _ (ballocH bb0 (Nat.le_refl _) _).drew)
    (first
      | (go_at_call 33; refine (parityError_any m A n c L R _ hn (KI.out _ (by assumption))).mono ?_; rintro e w2 ⟨rfl, hb2⟩; have hs_w2 : Below W.heap.size W w2 := bst2 hb2 (by assumption) (Nat.le_refl _))
      | (go_at_call 34; refine (bitsError_any C N d X _ hN (KX.out _ (by assumption))).mono ?_; rintro e w3 ⟨rfl, hb3⟩; have hs_w3 : Below W.heap.size W w3 := bst2 hb3 (by assumption) (Nat.le_refl _))
      | (go_at_call 54; refine (wordLength_any m A n c _).mono ?_; rintro e w4 ⟨rfl, hb4⟩; have hs_w4 : Below W.heap.size W w4 := bst2 hb4 (by assumption) (Nat.le_refl _))
      | (go_at_call 35; refine (unless_any _ _ _).mono ?_; rintro e w5 ⟨rfl, rfl⟩)
      | (go_at_call 32; refine (firstError_laid [parErrI m n L R, firstE [firstE [unI (decide (0 < N)) 10, unI (decide (N ≤ 200)) 8], unI (bitsB N X) 15], unI _ 10] 3 _ _ rfl (by decide)).mono ?_; rintro e w6 ⟨rfl, rfl⟩))
  all_goals
    rw [show firstE [firstE [unI (decide (0 < N)) 10, unI (decide (N ≤ 200)) 8], unI (bitsB N X) 15] = bitsErrR N X from bitsErrC_eq N X, HE.out]
    go_wp2_with fail
    go_ret
    first
      | exact ⟨rfl, hB.trans ((hs_w4.alloc (by have := hs_w4.size; omega) _).mono hB.size)⟩
      | exact ⟨rfl, hB.trans ((hs_w3.alloc (by have := hs_w3.size; omega) _).mono hB.size)⟩
      | exact ⟨rfl, hB.trans ((hs_w2.alloc (by have := hs_w2.size; omega) _).mono hB.size)⟩
set_option maxHeartbeats 2000000 in
theorem Failed_any (m : Int) (A C : Option Addr) (n c N d : Nat) (L : Nat → Nat) (R : Nat → Nat → Int) (X : Nat → Int) (w : World) (hn : n ≤ 9223372036854775807) (hN : N ≤ 100000) (hI : ListsAt w 0 A n L R) (hX : IntsAt w 0 C N X) :
    Calls Try.prog 12 #[.agg #[.int .i64 m, .slice A n c], .slice C N d] w fun e w' => ∃ v, e = .returned (.tuple #[v, .int .i64 (wordErrI m n L R N X)]) ∧
      ((wordErrI m n L R N X ≠ 0 ∧ v = .slice none 0 0) ∨ (wordErrI m n L R N X = 0 ∧ OwnInts w' w.heap.size v (failN n L R X) (pickF (failP L R X) n))) ∧ Below w.heap.size w w' := by
  have HI := hide hI
  have HX := hide hX
  have HW := hide (fun W hW1 hW2 => wordError_any m A C n c N d L R X W hn hN hW1 hW2)
  clear hI hX
  by_cases he : wordErrI m n L R N X = 0
  · obtain ⟨hp, hb, hq⟩ := threeE_zero.1 he
    obtain ⟨h1, hok⟩ := parOk_of hp
    have hbits := (bitsErrR_zero hb).2.2
    have hNm : N = m.toNat + n := by have := eq_of_beq hq; omega
    have HF := hide (fun W hW1 hW2 => failed_any m A C n c N d L R X W (by have := hok.rows; omega) (fun i hi => by have := (hok.row i hi).most; omega) hW1 hW2 (by rw [hNm] at hbits ⊢; exact WordOk.of hok hbits))
    rw [he] at HW ⊢
    clear he hp hb hq h1 hok hbits hNm
    go_enter Try.func12, Try.ntmps12
    go_wp2_with fail
    refine (HW.out _ (HI.out.alloc _) (HX.out.alloc _)).mono ?_
    rintro e w1 ⟨rfl, hb1⟩
    have bx1 : Box w1 w.heap.size 24 #[.int .i64 m, .slice A n c] := (Box.made rfl).below hb1
    have hB1 := below_of_alloc hb1
    clear hb1
    obtain ⟨z0, z1, hlz⟩ := par_cells bx1
    have hB1s := hB1.size
    go_wp2_with fail
    refine (HF.out _ (HI.out.below hB1) (HX.out.below hB1)).mono ?_
    rintro e w2 ⟨v2, rfl, hown2, hb2⟩
    go_wp2_with fail
    go_ret2
    exact ⟨_, rfl, .inr ⟨by first | rfl | trivial, hown2.weak hB1s⟩, hB1.trans (hb2.mono hB1s)⟩
  · have te : (wordErrI m n L R N X != 0) = true := by simpa using he
    have HE := hide he
    clear he
    generalize wordErrI m n L R N X = V at *
    go_enter Try.func12, Try.ntmps12
    go_wp2_with fail
    refine (HW.out _ (HI.out.alloc _) (HX.out.alloc _)).mono ?_
    rintro e w1 ⟨rfl, hb1⟩
    have hB1 := below_of_alloc hb1
    go_wp2_with fail
    go_ret2
    exact ⟨_, rfl, .inl ⟨HE.out, rfl⟩, hB1⟩
end Go.Proofs.Ytdkoohfcpikgiaa
/- EncodeParity of the code. -/
namespace Go.Proofs.Ytdkoohfcpikgiaa
open Go.RowKit
theorem encErr_first (m : Int) (n : Nat) (L : Nat → Nat) (R : Nat → Nat → Int) (N : Nat) (X : Nat → Int) : firstE [parErrI m n L R, bitsErrR N X, unI ((N : Int) == m) 10] = encErrI m n L R N X := firstE_three _ _ _
set_option maxHeartbeats 4000000 in
set_option maxRecDepth 100000 in
theorem EncodeParity_any (m : Int) (A C : Option Addr) (n c N d : Nat) (L : Nat → Nat) (R : Nat → Nat → Int) (B : Nat → Int) (w : World) (hn : n ≤ 9223372036854775807) (hN : N ≤ 100000) (hI : ListsAt w 0 A n L R) (hX : IntsAt w 0 C N B) :
    Calls Try.prog 10 #[.agg #[.int .i64 m, .slice A n c], .slice C N d] w fun e w' => ∃ v, e = .returned (.tuple #[v, .int .i64 (encErrI m n L R N B)]) ∧
      ((encErrI m n L R N B ≠ 0 ∧ v = .slice none 0 0) ∨ (encErrI m n L R N B = 0 ∧ OwnInts w' w.heap.size v (m.toNat + n) (encF m.toNat L R B n))) ∧ Below w.heap.size w w' := by
  have HI := hide hI
  have HX := hide hX
  have HE := hide (encErr_first m n L R N B)
  have HPE := hide (fun W hW => parityError_any m A n c L R W hn hW)
  have HZ := hide (fun (h : encErrI m n L R N B = 0) => (by
    obtain ⟨hp, hb, hq⟩ := threeE_zero.1 h
    obtain ⟨h1, hok⟩ := parOk_of hp
    have hq := eq_of_beq hq
    exact ⟨by omega, hok, fun j hj => (bitsErrR_zero hb).2.2 j (by omega)⟩ : m = ((m.toNat : Nat) : Int) ∧ ParOk m.toNat n L R ∧ (∀ j, j < m.toNat → IsBit (B j))))
  have HNm := hide (fun (h : encErrI m n L R N B = 0) => (by
    obtain ⟨hp, hb, hq⟩ := threeE_zero.1 h
    have hq := eq_of_beq hq
    omega : N = m.toNat))
  clear hI hX
  generalize encErrI m n L R N B = V at *
  go_enter Try.func10, Try.ntmps10
  go_wp2_with fail
  generalize hW : World.alloc w _ = W
  have bx : Box W w.heap.size 24 #[.int .i64 m, .slice A n c] := by rw [← hW]; exact Box.made rfl
  have hB : Below w.heap.size w W := by rw [← hW]; exact (Below.refl _ _).alloc (Nat.le_refl _) _
  have HIW := hide (HI.out.below hB)
  have HXW := hide (HX.out.below hB)
  clear hW
  obtain ⟨z0, z1, hlz⟩ := par_cells bx
  have SOF := hide (fun W' (h : Below W.heap.size W W') => (⟨(h.cell (p := ⟨w.heap.size, 0, none⟩) hlz).trans z0, (h.cell (p := ⟨w.heap.size, 1, none⟩) hlz).trans z1, h⟩ : W'.cell? ⟨w.heap.size, 0, none⟩ = some (.int .i64 m) ∧ W'.cell? ⟨w.heap.size, 1, none⟩ = some (.slice A n c) ∧ Below W.heap.size W W'))
  have KI := hide (fun W' (h : W'.cell? ⟨w.heap.size, 0, none⟩ = some (.int .i64 m) ∧ W'.cell? ⟨w.heap.size, 1, none⟩ = some (.slice A n c) ∧ Below W.heap.size W W') => HIW.out.below h.2.2)
  have KX := hide (fun W' (h : W'.cell? ⟨w.heap.size, 0, none⟩ = some (.int .i64 m) ∧ W'.cell? ⟨w.heap.size, 1, none⟩ = some (.slice A n c) ∧ Below W.heap.size W W') => HXW.out.below h.2.2)
  have bb0 : Below W.heap.size W W := Below.refl _ _
  clear z0 z1
  go_region_held3 (fun w' => w'.cell? ⟨w.heap.size, 0, none⟩ = some (.int .i64 m) ∧ w'.cell? ⟨w.heap.size, 1, none⟩ = some (.slice A n c) ∧ Below W.heap.size W w')
    (first | assumption | exact SOF.out _ (by assumption) | exact SOF.out _ bb0.drew | exact SOF.out _ (below_drewN (by assumption) _) | exact SOF.out _ (ballocH (by assumption) (Nat.le_refl _) _) | exact SOF.out _ (ballocH bb0 (Nat.le_refl _) _).drew)
    (first
      | (go_at_call 33; refine (HPE.out _ (KI.out _ (by assumption))).mono ?_; rintro e w2 ⟨rfl, hb2⟩; have hs_w2 : Below W.heap.size W w2 := bst2 hb2 (by assumption) (Nat.le_refl _))
      | (go_at_call 34; refine (bitsError_any C N d B _ hN (KX.out _ (by assumption))).mono ?_; rintro e w3 ⟨rfl, hb3⟩; have hs_w3 : Below W.heap.size W w3 := bst2 hb3 (by assumption) (Nat.le_refl _))
      | (go_at_call 35; refine (unless_any _ _ _).mono ?_; rintro e w5 ⟨rfl, rfl⟩)
      | (go_at_call 32; refine (firstError_laid [parErrI m n L R, firstE [firstE [unI (decide (0 < N)) 10, unI (decide (N ≤ 200)) 8], unI (bitsB N B) 15], unI _ 10] 3 _ _ rfl (by decide)).mono ?_; rintro e w6 ⟨rfl, hw6⟩; have hs_w6 : Below W.heap.size W w6 := by rw [← hw6]; first | exact ballocH (by assumption) (Nat.le_refl _) _ | exact (ballocH (by assumption) (Nat.le_refl _) _).drew))
  rw [show firstE [firstE [unI (decide (0 < N)) 10, unI (decide (N ≤ 200)) 8], unI (bitsB N B) 15] = bitsErrR N B from bitsErrC_eq N B, HE.out]
  have hA6 : Below W.heap.size W w6 := hs_w6
  have bx4 := bx.below hA6
  have hB4 : Below w.heap.size w w6 := hB.trans (hA6.mono hB.size)
  clear bx hB hw6 HPE HE SOF KI KX hs_w2 hs_w3 hs_w6 hb2 hb3 bb0 HIW HXW hA6
  by_cases hv : V = 0
  · subst hv
    obtain ⟨hmm, hok, hbit⟩ := HZ.out rfl
    have hNm := HNm.out rfl
    have HOK := hide hok
    have HB := hide hbit
    have hm1 := hok.one
    have hm9 := hok.most
    have hn9 := hok.rows
    generalize m.toNat = M at *
    subst hmm
    subst hNm
    clear hok hbit HZ HNm
    obtain ⟨b0, o0, rfl, -, -, -⟩ := HX.out 0 (by omega)
    obtain ⟨z0, z1, hlz⟩ := par_cells bx4
    go_wp2_with fail
    refine (cloneInts_any b0 o0 N d B _ (by omega) (HX.out.below hB4)).mono ?_
    rintro e w5 ⟨v5, rfl, hown5, hb5⟩
    have bx5 := bx4.below hb5
    have hB5 := hB4.trans (hb5.mono hB4.size)
    have hown5 : OwnInts w5 w.heap.size v5 (N + 0) (encF N L R B 0) := hown5.weak hB4.size
    clear z0 z1 hlz bx4 hB4 hb5
    obtain ⟨z0, z1, hlz⟩ := par_cells bx5
    go_wp2_with fail
    clear z0 z1 hlz
    go_loopw [7, 30] (fun v i wr => ∃ k : Nat, k ≤ n ∧ i = .int .i64 k ∧ OwnInts wr w.heap.size v (N + k) (encF N L R B k) ∧ Below w.heap.size w wr) (fun _ i _ => n - (intOf i).toNat)
    case atStart => exact ⟨0, Nat.zero_le _, rfl, hown5, hB5⟩
    case round =>
      clear hown5 bx5 hB5
      obtain ⟨k, hk, rfl, hown, hB⟩ := hrel
      have hBs := hB.size
      by_cases hlt : k < n
      · have hltz : (k : Int) < (n : Int) := by omega
        obtain ⟨As, cs, rfl, hcs, hIs⟩ := hown.form
        have hrow := HOK.out.row k hlt
        have HOD := hide (fun (h : IntsAt wr 0 As (N + k) (encF N L R B k)) (b o ci : Nat) (h2 : IntsAt wr 0 (some ⟨b, o, none⟩) (L k) (R k)) => oddness_any As (some ⟨b, o, none⟩) (N + k) cs (L k - 1) ci (encF N L R B k) (R k) wr (by have := hrow.most; omega) h (h2.fewer (by omega)) (fun j hj => by
          have h1 := hrow.range j (by omega)
          have h2 := hrow.below j (by omega)
          exact ⟨h1.1, by omega, encF_bit HB.out k _ (by omega)⟩))
        have hL8 := hrow.most
        have hL2 := hrow.two
        obtain ⟨b, o, Ai, ci, rfl, -, hbk, hcell, hlc, hc9, hIk⟩ := (HI.out.below hB) k hlt
        obtain ⟨bi, oi, rfl, -, -, -⟩ := hIk 0 (by omega)
        have HQ := hide (HOD.out (hIs.weak (Nat.zero_le _)) bi oi ci hIk)
        have q1 : IntKind.i64.wrap ((L k : Int) - 1) = ((L k - 1 : Nat) : Int) := by rw [IntWalk.i64_in _ (by omega)]; omega
        obtain ⟨l, hl⟩ : ∃ l, l = L k - 1 := ⟨_, rfl⟩
        have hlz : (l : Int) ≤ (ci : Int) := by omega
        have hl0 : (0 : Int) ≤ (l : Int) := by omega
        have hl2 : l ≤ ci := by omega
        have HS := hide (show encF N L R B (k + 1) = catF (N + k) (encF N L R B k) (fun _ => psum (encF N L R B k) (R k) (L k - 1) % 2) from rfl)
        rw [← hl] at q1 HQ HS
        clear hrow HOD hIk hIs hl
        generalize psum (encF N L R B k) (R k) l % 2 = x at *
        go_wp2_with fail
        refine HQ.out.mono ?_
        rintro e w6 ⟨rfl, rfl⟩
        go_wp2_with (at_builtin; refine wpList_append_ints _ rfl (.tmp 34) (.tmp 42) rfl w.heap.size 0 (.slice As (N + k) cs) (N + k) _ rfl (hown.alloc _) (some ⟨wr.heap.size, 0, none⟩) 1 1 (fun _ => x) rfl (IntsAt.one _ _ _ _ (Nat.zero_le _)) (by omega) (by simp; omega) ?_; intro v' w' h1 hb2)
        go_roundw
        case rel => exact ⟨k + 1, by omega, by go_num, by rw [HS.out]; exact h1, (hB.alloc hBs _).trans hb2⟩
        case measure => simp [intOf]; omega
      · obtain rfl : k = n := by omega
        go_wp2_with fail
        go_ret2
        exact ⟨_, rfl, by first | exact hown | exact .inr ⟨by first | rfl | trivial, hown⟩, hB⟩
  · have te : (V != 0) = true := by simpa using hv
    have HV := hide hv
    clear hv HZ HNm
    go_wp2_with fail
    go_ret2
    exact ⟨_, rfl, .inl ⟨HV.out, rfl⟩, hB4⟩
end Go.Proofs.Ytdkoohfcpikgiaa
