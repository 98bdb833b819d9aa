/- How a block is cut: of the code and of the reference. Rules. -/
import Derived.Test.YtjelbemfljobaaaLb
import Derived.Test.YtjelbemfljobaaaHb
namespace Go.Proofs.Ytjelbemfljobaaa
open Go.RowKit Go.Shelf
/-- Divided, rounded up. -/
def ceilN (a b : Nat) : Nat := (a + b - 1) / b
theorem ceilN_eq {a b : Nat} (hb : 0 < b) : ceilN a b = if a % b = 0 then a / b else a / b + 1 := by
  unfold ceilN
  have h := Nat.div_add_mod a b
  have hr := Nat.mod_lt a hb
  generalize a / b = q at *
  generalize a % b = r at *
  by_cases h0 : r = 0
  · rw [if_pos h0, show a + b - 1 = b * q + (b - 1) by omega, Nat.mul_add_div hb, Nat.div_eq_of_lt (by omega)]; rfl
  · rw [if_neg h0, show a + b - 1 = b * (q + 1) + (r - 1) by rw [Nat.mul_add]; omega, Nat.mul_add_div hb, Nat.div_eq_of_lt (by omega)]
theorem ceilN_le {a b : Nat} (hb : 0 < b) : ceilN a b ≤ a := by
  rw [ceilN_eq hb]
  split
  · exact Nat.div_le_self _ _
  · rename_i h
    rcases Nat.lt_or_ge a b with h1 | h1
    · have : a / b = 0 := Nat.div_eq_of_lt h1
      rcases Nat.eq_zero_or_pos a with h2 | h2
      · subst h2; simp at h
      · omega
    · by_cases hb1 : b = 1
      · subst hb1; exact absurd (Nat.mod_one a) h
      · have := Nat.div_lt_self (show 0 < a by omega) (show 1 < b by omega)
        omega
theorem ceilN_pos {a b : Nat} (hb : 0 < b) (ha : 0 < a) : 0 < ceilN a b := by
  unfold ceilN
  exact Nat.div_pos (by omega) hb
theorem ceilN_mul {a b : Nat} (hb : 0 < b) : a ≤ ceilN a b * b ∧ ceilN a b * b < a + b := by
  unfold ceilN
  have h := Nat.div_add_mod (a + b - 1) b
  have hr := Nat.mod_lt (a + b - 1) hb
  rw [Nat.mul_comm] at h
  omega
set_option maxHeartbeats 1000000 in
theorem dividedUp_any (a b : Nat) (w : World) (hb : 0 < b) (ha : a ≤ 1000000) (hb9 : b ≤ 1000000) :
    Calls Try.prog 117 #[.int .i64 (a : Int), .int .i64 (b : Int)] w fun e w' => e = .returned (.int .i64 ((ceilN a b : Nat) : Int)) ∧ w = w' := by
  obtain ⟨s, hs⟩ : ∃ s, s = a + b - 1 := ⟨_, rfl⟩
  have q1 : IntKind.i64.wrap ((a : Int) + (b : Int)) = (a : Int) + (b : Int) := IntWalk.i64_in _ (by omega)
  have q2 : IntKind.i64.wrap ((a : Int) + (b : Int) - 1) = (s : Int) := by rw [IntWalk.i64_in _ (by omega)]; omega
  have hb0 : ¬ (b : Int) = 0 := by omega
  obtain ⟨z, hz⟩ : ∃ z : Nat, z = s / b := ⟨_, rfl⟩
  have HC := hide (show ceilN a b = z from by rw [hz, hs]; rfl)
  have hs9 : s ≤ 2000000 := by omega
  have hzs : z ≤ s := by rw [hz]; exact Nat.div_le_self s b
  have qd : IntKind.i64.wrap ((s : Int) / (b : Int)) = (z : Int) := by
    have e : (s : Int) / (b : Int) = (z : Int) := by rw [hz]; exact (Int.natCast_ediv s b).symm
    rw [e]
    exact IntWalk.i64_in _ (by omega)
  clear hs hz
  go_enter Try.func117, Try.ntmps117
  go_wp2_with fail
  go_ret
  exact ⟨ret_int (by rw [HC.out]), rfl⟩
theorem neg_tdiv_nat (a b : Nat) : (-(a : Int)).tdiv (b : Int) = -((a / b : Nat) : Int) := by
  rw [Int.neg_tdiv]
  rfl
theorem neg_tmod_nat (a b : Nat) : (-(a : Int)).tmod (b : Int) = -((a % b : Nat) : Int) := by
  rw [Int.neg_tmod]
  rfl
set_option maxHeartbeats 1000000 in
theorem floor_neg (a b : Nat) (w : World) (hb : 0 < b) (ha : a ≤ 1000000) (hb9 : b ≤ 1000000) :
    Calls Try.prog 96 #[.int .i64 (-(a : Int)), .int .i64 (b : Int)] w fun e w' => e = .returned (.int .i64 (-((ceilN a b : Nat) : Int))) ∧ w = w' := by
  have HE := hide (ceilN_eq (a := a) hb)
  have hd := Nat.div_le_self a b
  have hm := Nat.mod_le a b
  have hb0 : ¬ (b : Int) = 0 := by omega
  obtain ⟨n, hn⟩ : ∃ n : Int, n = -(a : Int) := ⟨_, rfl⟩
  have e1 := neg_tdiv_nat a b
  have e2 := neg_tmod_nat a b
  rw [← hn] at e1 e2 ⊢
  have hn9 : -1000000 ≤ n ∧ n ≤ 0 := by omega
  generalize a / b = q at *
  generalize a % b = r at *
  have q0 : IntKind.i64.wrap (-(q : Int)) = -(q : Int) := IntWalk.i64_in _ (by omega)
  clear hn
  by_cases hr : r = 0
  · subst hr
    have e2' : n.tmod (b : Int) = 0 := e2
    have HC := hide (show ceilN a b = q from by rw [HE.out, if_pos rfl])
    clear e2
    go_enter Try.func96, Try.ntmps96
    go_wp2_with fail
    go_ret
    exact ⟨ret_int (by rw [HC.out]), rfl⟩
  · have t1 : decide (-(r : Int) < 0) = true := by simp; omega
    have HC := hide (show ceilN a b = q + 1 from by rw [HE.out, if_neg hr])
    have q1 : IntKind.i64.wrap (-(q : Int) - 1) = -(q : Int) - 1 := IntWalk.i64_in _ (by omega)
    go_enter Try.func96, Try.ntmps96
    go_wp2_with fail
    go_ret
    exact ⟨ret_int (by rw [HC.out]; omega), rfl⟩
set_option maxHeartbeats 1000000 in
theorem ceil_any (a b : Nat) (w : World) (hb : 0 < b) (ha : a ≤ 1000000) (hb9 : b ≤ 1000000) :
    Calls Try.prog 49 #[.int .i64 (a : Int), .int .i64 (b : Int)] w fun e w' => e = .returned (.int .i64 ((ceilN a b : Nat) : Int)) ∧ w = w' := by
  have HF := hide (fun W => floor_neg a b W hb ha hb9)
  have hc := ceilN_le (a := a) hb
  have q0 : IntKind.i64.wrap (-(a : Int)) = -(a : Int) := IntWalk.i64_in _ (by omega)
  obtain ⟨x, hx⟩ : ∃ x, x = ceilN a b := ⟨_, rfl⟩
  rw [← hx] at HF hc ⊢
  have q1 : IntKind.i64.wrap (x : Int) = (x : Int) := IntWalk.i64_in _ (by omega)
  clear hx
  go_enter Try.func49, Try.ntmps49
  go_wp2_with fail
  refine (HF.out _).mono ?_
  rintro e w' ⟨rfl, rfl⟩
  go_wp2_with fail
  go_ret
  exact ⟨ret_int (by first | rfl | simp), rfl⟩
/-- The error of a rule. -/
def ruleErrI (d t M : Int) : Int := firstE [polyErrI d t, unI (withinB M (d + 1) 100) 2]
/-- A rule that is right. -/
structure RuleOk (d t M : Int) (x y m : Nat) : Prop where
  ed : d = x
  et : t = y
  em : M = m
  d0 : 1 ≤ x
  d1 : x ≤ 16
  t1 : y < 2 ^ x
  m0 : x < m
  m9 : m ≤ 100
theorem ruleErr_zero {d t M : Int} (h : ruleErrI d t M = 0) : ∃ x y m, RuleOk d t M x y m := by
  obtain ⟨h1, h⟩ := firstE_zero_cons h
  obtain ⟨h2, -⟩ := firstE_zero_cons h
  have h2 := withinB_of (unI_zero (by decide) h2)
  obtain ⟨g1, g2, g3, g4, -⟩ := poly_of h1
  obtain ⟨x, rfl⟩ := Int.eq_ofNat_of_zero_le (show 0 ≤ d by omega)
  obtain ⟨y, rfl⟩ := Int.eq_ofNat_of_zero_le (show 0 ≤ t by omega)
  obtain ⟨m, rfl⟩ := Int.eq_ofNat_of_zero_le (show 0 ≤ M by omega)
  rw [Int.toNat_natCast] at g4
  have : ((2 ^ x : Nat) : Int) = (2 : Int) ^ x := by simp
  exact ⟨x, y, m, rfl, rfl, rfl, by omega, by omega, by omega, by omega, by omega⟩
theorem ruleErr_of (d t M v : Int) (h : polyErrI d t = 0 → v = d + 1) : firstE [polyErrI d t, unI (withinB M v 100) 2] = ruleErrI d t M := by
  unfold ruleErrI
  by_cases h1 : polyErrI d t = 0
  · rw [h h1]
  · rw [firstE_cons, if_neg h1, firstE_cons, if_neg h1]
theorem wrap_succ {d t : Int} (h : polyErrI d t = 0) : IntKind.i64.wrap (d + 1) = d + 1 := by
  obtain ⟨g1, g2, -⟩ := poly_of h
  exact IntWalk.i64_in _ (by omega)
theorem bstep4 {B : Nat} {w1 W w2 : World} {p q r : Prop} (hb : Below W.heap.size W w2) (h : p ∧ q ∧ r ∧ Below B w1 W) (hB : B ≤ w1.heap.size) : Below B w1 w2 := h.2.2.2.trans (hb.mono (Nat.le_trans hB h.2.2.2.size))
theorem rule_cells {W : World} {b : Nat} {d t M : Int} (bx : Box W b 71 #[.int .i64 d, .int .i64 t, .int .i64 M]) :
    W.cell? ⟨b, 0, none⟩ = some (.int .i64 d) ∧ W.cell? ⟨b, 1, none⟩ = some (.int .i64 t) ∧ W.cell? ⟨b, 2, none⟩ = some (.int .i64 M) ∧ b < W.heap.size := ⟨bx.at_ 0, bx.at_ 1, bx.at_ 2, bx.lt⟩
set_option maxHeartbeats 2000000 in
theorem ruleError_any (d t M : Int) (w : World) :
    Calls Try.prog 88 #[.agg #[.int .i64 d, .int .i64 t, .int .i64 M]] w fun e w' => e = .returned (.int .i64 (ruleErrI d t M)) ∧ Below w.heap.size w w' := by
  have HFE := hide (ruleErr_of d t M (IntKind.i64.wrap (d + 1)) wrap_succ)
  go_enter Try.func88, Try.ntmps88
  go_wp2_with fail
  generalize hW : World.alloc w _ = W
  have bx : Box W w.heap.size 71 #[.int .i64 d, .int .i64 t, .int .i64 M] := by rw [← hW]; exact Box.made rfl
  have hB : Below w.heap.size w W := by rw [← hW]; exact (Below.refl _ _).alloc (Nat.le_refl _) _
  clear hW
  obtain ⟨x0, x1, x2, -⟩ := rule_cells bx
  have hz : w.heap.size + 1 ≤ W.heap.size := bx.lt
  have SOF := hide (fun W' (h : Below (w.heap.size + 1) W W') => (⟨(h.cell (p := ⟨w.heap.size, 0, none⟩) (by simp)).trans x0, (h.cell (p := ⟨w.heap.size, 1, none⟩) (by simp)).trans x1, (h.cell (p := ⟨w.heap.size, 2, none⟩) (by simp)).trans x2, h⟩ :
     W'.cell? ⟨w.heap.size, 0, none⟩ = some (.int .i64 d) ∧ W'.cell? ⟨w.heap.size, 1, none⟩ = some (.int .i64 t) ∧ W'.cell? ⟨w.heap.size, 2, none⟩ = some (.int .i64 M) ∧ Below (w.heap.size + 1) W W'))
  have b0 : Below (w.heap.size + 1) W W := Below.refl _ _
  have HBB := hide hB
  clear x0 x1 x2 hB bx
  go_region_held3 (fun w' => w'.cell? ⟨w.heap.size, 0, none⟩ = some (.int .i64 d) ∧ w'.cell? ⟨w.heap.size, 1, none⟩ = some (.int .i64 t) ∧ w'.cell? ⟨w.heap.size, 2, none⟩ = some (.int .i64 M) ∧ Below (w.heap.size + 1) W w')
      (first | assumption | exact SOF.out _ (by assumption) | exact SOF.out _ b0.drew | exact SOF.out _ (balloc' (by assumption) hz _))
      (first
        | (go_at_call 97; refine (checkPoly_any d t _).mono ?_; rintro e w2 ⟨rfl, hb2⟩; have hs2 : Below (w.heap.size + 1) W w2 := bstep4 hb2 (by assumption) hz)
        | (go_at_call 80; refine (isWithin_any _ _ _ _).mono ?_; rintro e w3 ⟨rfl, rfl⟩)
        | (go_at_call 59; refine (unless_any _ _ _).mono ?_; rintro e w4 ⟨rfl, rfl⟩)
        | (go_at_call 56; refine (firstError_laid [polyErrI d t, unI (withinB M _ 100) 2] 2 _ _ rfl (by decide)).mono ?_; rintro e w6 ⟨rfl, rfl⟩))
  go_wp2_with fail
  go_ret
  have hB3 := HBB.out.trans (hs2.mono (by omega))
  exact ⟨ret_int HFE.out, hB3.alloc hB3.size _⟩
set_option maxHeartbeats 2000000 in
theorem ruleErrR_any (d t M : Int) (w : World) :
    Calls Try.prog 36 #[.agg #[.int .i64 d, .int .i64 t, .int .i64 M]] w fun e w' => e = .returned (.int .i64 (ruleErrI d t M)) ∧ Below w.heap.size w w' := by
  by_cases h1 : polyErrI d t = 0
  · have HW := hide (wrap_succ h1)
    have q1 : IntKind.i64.wrap (d + 1) = d + 1 := wrap_succ h1
    have HP := hide (fun W => checkPolyR_any d t W)
    rw [h1] at HP
    cases h2 : withinB M (d + 1) 100
    all_goals
      have HE := hide (show ruleErrI d t M = _ from by unfold ruleErrI; rw [firstE_cons, if_pos h1, h2])
      generalize ruleErrI d t M = R at *
      clear h1
      go_enter Try.func36, Try.ntmps36
      go_wp2_with fail
      refine (HP.out _).mono ?_
      rintro e w1 ⟨rfl, hb1⟩
      have bx1 : Box w1 w.heap.size 71 #[.int .i64 d, .int .i64 t, .int .i64 M] := (Box.made rfl).below hb1
      have hB1 := below_of_alloc hb1
      obtain ⟨x0, x1, x2, hl⟩ := rule_cells bx1
      go_wp2_with fail
      refine (within_any _ _ _ _).mono ?_
      rintro e w2 ⟨rfl, rfl⟩
      rw [h2]
      go_wp2_with fail
      go_ret
      exact ⟨ret_int (by rw [HE.out]; rfl), hB1⟩
  · have HE := hide (show ruleErrI d t M = polyErrI d t from by unfold ruleErrI; rw [firstE_cons, if_neg h1])
    have HP := hide (fun W => checkPolyR_any d t W)
    have t1 : (polyErrI d t != 0) = true := by simpa using h1
    generalize ruleErrI d t M = R at *
    generalize polyErrI d t = r at *
    clear h1
    go_enter Try.func36, Try.ntmps36
    go_wp2_with fail
    refine (HP.out _).mono ?_
    rintro e w1 ⟨rfl, hb1⟩
    go_wp2_with fail
    go_ret
    exact ⟨ret_int HE.out.symm, below_of_alloc hb1⟩
/-- How many segments, and how many bits each one has ahead of its check. -/
def cntN (x m n : Nat) : Nat := ceilN n (m - x)
def aheadN (x m n : Nat) : Nat := ceilN n (cntN x m n)
theorem cut_facts {x m n : Nat} (hx : x < m) (hm : m ≤ 100) (n0 : 0 < n) (hn : n ≤ 200) : 0 < cntN x m n ∧ cntN x m n ≤ 200 ∧ 0 < aheadN x m n ∧ aheadN x m n ≤ m - x ∧ n ≤ cntN x m n * aheadN x m n ∧ cntN x m n * aheadN x m n < n + cntN x m n := by
  have hp : 0 < m - x := by omega
  have h1 : 0 < cntN x m n := ceilN_pos hp n0
  have h2 : cntN x m n ≤ n := ceilN_le hp
  have h3 : 0 < aheadN x m n := ceilN_pos h1 n0
  have h4 := ceilN_mul (a := n) hp
  have h5 := ceilN_mul (a := n) h1
  refine ⟨h1, by omega, h3, ?_, ?_, ?_⟩
  · refine Classical.byContradiction fun hno => ?_
    have h6 : (m - x + 1) * cntN x m n ≤ aheadN x m n * cntN x m n := Nat.mul_le_mul_right _ (by omega)
    have h7 : aheadN x m n * cntN x m n < n + cntN x m n := h5.2
    have h8 : n ≤ cntN x m n * (m - x) := h4.1
    rw [Nat.add_mul, Nat.one_mul, Nat.mul_comm] at h6
    omega
  · rw [Nat.mul_comm]; exact h5.1
  · rw [Nat.mul_comm]; exact h5.2
set_option maxHeartbeats 2000000 in
theorem cutOf_any (x y m n : Nat) (w : World) (hx : x < m) (hm : m ≤ 100) (n0 : 0 < n) (hn : n ≤ 200) :
    Calls Try.prog 89 #[.agg #[.int .i64 (x : Int), .int .i64 (y : Int), .int .i64 (m : Int)], .int .i64 (n : Int)] w fun e w' => e = .returned (.agg #[.int .i64 ((cntN x m n : Nat) : Int), .int .i64 ((aheadN x m n : Nat) : Int), .int .i64 ((cntN x m n * aheadN x m n - n : Nat) : Int)]) ∧ Below w.heap.size w w' := by
  obtain ⟨c1, c2, c3, c4, c5, c6⟩ := cut_facts hx hm n0 hn
  obtain ⟨p, hp⟩ : ∃ p : Nat, p = m - x := ⟨_, rfl⟩
  have q1 : IntKind.i64.wrap ((m : Int) - (x : Int)) = (p : Int) := by rw [IntWalk.i64_in _ (by omega)]; omega
  have HD1 := hide (fun W => dividedUp_any n p W (by omega) (by omega) (by omega))
  have HD2 := hide (fun W => dividedUp_any n (cntN x m n) W c1 (by omega) (by omega))
  rw [show ceilN n p = cntN x m n from by rw [hp]; rfl] at HD1
  rw [show ceilN n (cntN x m n) = aheadN x m n from rfl] at HD2
  generalize cntN x m n = c at *
  generalize aheadN x m n = a at *
  obtain ⟨s, hs⟩ : ∃ s : Nat, s = c * a := ⟨_, rfl⟩
  rw [← hs] at c5 c6 ⊢
  have hsz : (c : Int) * (a : Int) = (s : Int) := by rw [hs]; simp
  obtain ⟨f, hf⟩ : ∃ f : Nat, f = s - n := ⟨_, rfl⟩
  rw [← hf]
  have q2 : IntKind.i64.wrap ((c : Int) * (a : Int)) = (s : Int) := by rw [hsz]; exact IntWalk.i64_in _ (by omega)
  have q3 : IntKind.i64.wrap ((s : Int) - (n : Int)) = (f : Int) := by rw [IntWalk.i64_in _ (by omega)]; omega
  clear hs hsz hf hp
  go_enter Try.func89, Try.ntmps89
  go_wp2_with fail
  refine (HD1.out _).mono ?_
  rintro e w1 ⟨rfl, rfl⟩
  go_wp2_with fail
  refine (HD2.out _).mono ?_
  rintro e w1 ⟨rfl, rfl⟩
  go_wp2_with fail
  refine bodyPost_ret (v := .agg #[.int .i64 (c : Int), .int .i64 (a : Int), .int .i64 (f : Int)]) ?_ rfl ⟨rfl, by (repeat (first | (with_reducible exact Below.refl _ _) | (with_reducible refine below_drewN ?_ _) | (with_reducible refine Below.drew ?_) | (with_reducible refine Below.alloc ?_ (by first | exact Nat.le_refl _ | (simp; done) | (simp; omega) | omega) _) | (with_reducible refine Below.setCell ?_ (by first | exact Nat.le_refl _ | (simp; done) | (simp; omega) | omega) _)))⟩
  have hy := (Box.made (by simp) : Box ((w.alloc (.cells #[.int .i64 (x : Int), .int .i64 (y : Int), .int .i64 (m : Int)] 71)).alloc (.cells #[.int .i64 (c : Int), .int .i64 (a : Int), .int .i64 (f : Int)] 120)) (w.heap.size + 1) 120 #[.int .i64 (c : Int), .int .i64 (a : Int), .int .i64 (f : Int)])
  have z0 := hy.at_ 0
  have z1 := hy.at_ 1
  have z2 := hy.at_ 2
  simp at z0 z1 z2
  simp [results, Try.results89, go_sem, z0, z1, z2]
set_option maxHeartbeats 2000000 in
theorem cut_any (x y m n : Nat) (w : World) (hx : x < m) (hm : m ≤ 100) (n0 : 0 < n) (hn : n ≤ 200) :
    Calls Try.prog 92 #[.agg #[.int .i64 (x : Int), .int .i64 (y : Int), .int .i64 (m : Int)], .int .i64 (n : Int)] w fun e w' => e = .returned (.tuple #[.int .i64 ((cntN x m n : Nat) : Int), .int .i64 ((aheadN x m n : Nat) : Int)]) ∧ Below w.heap.size w w' := by
  obtain ⟨c1, c2, -⟩ := cut_facts hx hm n0 hn
  obtain ⟨p, hp⟩ : ∃ p : Nat, p = m - x := ⟨_, rfl⟩
  have q1 : IntKind.i64.wrap ((m : Int) - (x : Int)) = (p : Int) := by rw [IntWalk.i64_in _ (by omega)]; omega
  have HD1 := hide (fun W => ceil_any n p W (by omega) (by omega) (by omega))
  have HD2 := hide (fun W => ceil_any n (cntN x m n) W c1 (by omega) (by omega))
  rw [show ceilN n p = cntN x m n from by rw [hp]; rfl] at HD1
  rw [show ceilN n (cntN x m n) = aheadN x m n from rfl] at HD2
  generalize cntN x m n = c at *
  generalize aheadN x m n = a at *
  clear hp
  go_enter Try.func92, Try.ntmps92
  go_wp2_with fail
  refine (HD1.out _).mono ?_
  rintro e w1 ⟨rfl, rfl⟩
  go_wp2_with fail
  refine (HD2.out _).mono ?_
  rintro e w1 ⟨rfl, rfl⟩
  go_wp2_with fail
  go_ret2
  exact ⟨rfl, by (repeat (first | (with_reducible exact Below.refl _ _) | (with_reducible refine below_drewN ?_ _) | (with_reducible refine Below.drew ?_) | (with_reducible refine Below.alloc ?_ (by first | exact Nat.le_refl _ | (simp; done) | (simp; omega) | omega) _) | (with_reducible refine Below.setCell ?_ (by first | exact Nat.le_refl _ | (simp; done) | (simp; omega) | omega) _)))⟩
end Go.Proofs.Ytjelbemfljobaaa
