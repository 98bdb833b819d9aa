/- Lemmas: Mh, Mb, Mc, Mf, Md. -/
import Derived.Test.YtcpcndacodcopaaZs03
import Derived.Test.YtcpcndacodcopaaZs05
import Derived.Test.YtcpcndacodcopaaZs06
import Derived.Test.YtcpcndacodcopaaZs07
import Derived.Test.YtcpcndacodcopaaZs08
set_option linter.unusedVariables false
set_option linter.unusedSimpArgs false
/- slices.Chunk of a list that has some times as many numbers. -/
namespace Go.Proofs.Ytcpcndacodcopaa
open Go.RowKit Go.Shelf
attribute [local go_sem] Oper.semAt_some
set_option maxHeartbeats 400000 in
theorem chunk_any (A : Option Addr) (n c k : Nat) (w : World) (hk : 1 ≤ k) :
    Calls Try.prog 47 #[.slice A n c, .int .i64 (k : Int)] w fun e w' =>
      e = .returned (.func (.func 87) #[] #[.pointer (some ⟨w.heap.size, 0, none⟩), .pointer (some ⟨w.heap.size + 1, 0, none⟩)]) ∧
        (w.alloc (.cells #[.slice A n c] 26)).alloc (.cells #[.int .i64 (k : Int)] 3) = w' := by
  have t1 : decide ((k : Int) < 1) = false := by simp; omega
  go_enter Try.func47, Try.ntmps47
  go_wp2
  go_ret
  exact ⟨rfl, rfl⟩
/-- Two blocks stay as they are. -/
def K2 (a : Nat) (A B : World) : Prop := A.heap.size ≤ B.heap.size ∧ B.heap[a]? = A.heap[a]? ∧ B.heap[a + 1]? = A.heap[a + 1]?
theorem K2.refl (a : Nat) (A : World) : K2 a A A := ⟨Nat.le_refl _, rfl, rfl⟩
theorem K2.trans {a : Nat} {A B C : World} (h : K2 a A B) (k : K2 a B C) : K2 a A C := ⟨Nat.le_trans h.1 k.1, k.2.1.trans h.2.1, k.2.2.trans h.2.2⟩
theorem K2.of_below {a B0 : Nat} {A B : World} (h : Below B0 A B) (hk : a + 1 < B0) : K2 a A B := ⟨h.size, h.block _ (by omega), h.block _ hk⟩
theorem K2.put {a l : Nat} {W : World} {o' : Obj} (h1 : l < a ∨ a + 1 < l) : K2 a W (W.putObj l o') :=
  ⟨by simp, World.putObj_heap_other (by omega), World.putObj_heap_other (by omega)⟩
/-- What the iterator hands to a round: the piece of a numbers. -/
def encC (g a C : Nat) (x : Fin C) : Array Value := #[.slice (some ⟨g, x.1 * a, none⟩) a a]
set_option maxHeartbeats 2000000 in
set_option maxRecDepth 100000 in
theorem chunk_stops (fu : Nat) (b g a C s cap : Nat) (w : World)
    (bs : Box w b 26 #[.slice (some ⟨g, 0, none⟩) s cap]) (bn : Box w (b + 1) 3 #[.int .i64 (a : Int)])
    (ha : 1 ≤ a) (hs : s = C * a) (hs9 : s ≤ 100000) (hcap : s ≤ cap) (hcap9 : cap ≤ 9223372036854775807) :
    SeqStopsK Fence.wide fu Try.prog 87 #[.pointer (some ⟨b, 0, none⟩), .pointer (some ⟨b + 1, 0, none⟩)] (encC g a C) (K2 b)
      (fun xs => xs = seqTo C C) (fun _ => True) C w := by
  intro l J Jx W hW hJ hJx hY h0
  have cs := bs.below hW
  have cn := bn.below hW
  clear bs bn hW
  have z0 := cs.at_ 0
  have z1 := cn.at_ 0
  simp only [List.getElem?_toArray] at z0 z1
  have HS := hide hs
  clear hs
  refine callsIn_of_wp Try.func87 rfl trivial ?_ rfl
  simp only [Try.ntmps87, List.size_toArray, List.length_cons, List.length_nil, Nat.reduceAdd, Nat.reduceSub, Array.replicate_succ, Array.replicate_zero, List.push_toArray, List.append_toArray, List.nil_append, List.cons_append]
  gi_wp2_with fail
  gi_loopw [4] (fun i wr => ∃ j : Nat, j ≤ C ∧ i = .int .i64 ((j * a : Nat) : Int) ∧ J (seqTo C j) wr ∧ K2 b W wr) (fun i _ => s - (intOf i).toNat)
  case atStart => exact ⟨0, Nat.zero_le _, by rw [Nat.zero_mul]; rfl, h0, K2.refl _ _⟩
  case round =>
    obtain ⟨j, hj, rfl, hJs, hnx⟩ := hrel
    have ds : Box wr b _ _ := hnx.2.1.trans cs
    have dn : Box wr (b + 1) _ _ := hnx.2.2.trans cn
    have x0 := ds.at_ 0
    have x1 := dn.at_ 0
    simp only [List.getElem?_toArray] at x0 x1
    obtain ⟨u, hu⟩ : ∃ u : Nat, u = j * a := ⟨_, rfl⟩
    rw [← hu]
    by_cases hlt : j < C
    · have hmul : (j + 1) * a ≤ C * a := Nat.mul_le_mul_right a hlt
      rw [← HS.out, Nat.add_mul, Nat.one_mul, ← hu] at hmul
      obtain ⟨z, hz⟩ : ∃ z : Nat, z = u + a := ⟨_, rfl⟩
      have hus : (u : Int) < (s : Int) := by omega
      have hus2 : u < s := by omega
      have hus3 : (u : Int) ≤ (s : Int) := by omega
      have hucap : (u : Int) ≤ (cap : Int) := by omega
      have hne : ¬ cap = u := by omega
      have hmn : ¬ ((s - u : Nat) : Int) < (a : Int) := by omega
      have hmn2 : ¬ s - u < a := by omega
      have q5 : IntKind.i64.wrap ((u : Int) + (a : Int)) = (z : Int) := by rw [IntWalk.i64_in _ (by omega)]; omega
      have huz : (u : Int) ≤ (z : Int) := by omega
      have huz2 : u ≤ z := by omega
      have hzc : (z : Int) ≤ (cap : Int) := by omega
      have hzs : (z : Int) ≤ (s : Int) := by omega
      have hsub : z - u = a := by omega
      have hne2 : ¬ z = u := by omega
      have hne3 : ¬ a = 0 := by omega
      have hJd : J (seqTo C j) wr.drew := hJ _ _ _ _ hJs (grown_of_below ((Below.refl _ _).drew)) (fun r e => by cases e)
      obtain ⟨fn', tmps, assign, body, hy, hR⟩ := hY (seqTo C j) ⟨j, hlt⟩ wr.drew hJd (Nat.lt_of_le_of_lt (seqTo_len _ _) hlt)
      dsimp only [encC] at hy
      rw [← hu] at hy
      have HZ := hide (show z = (j + 1) * a from by rw [hz, hu, Nat.add_mul, Nat.one_mul])
      have HU := hide hu
      have HZA := hide hz
      clear hu hz hmul
      gi_wp2_with fail
      gi_region
      gi_wp2_with fail
      refine ⟨fun h => by simp [Fence.wide] at h, hR.mono ?_⟩
      rintro e w3 (⟨rfl, hJ3, hk3⟩ | ⟨rfl, hJx3⟩)
      · have hn3 : K2 b W w3 := hnx.trans hk3
        have d3 : Box w3 (b + 1) _ _ := hn3.2.2.trans cn
        have y1 := d3.at_ 0
        simp only [List.getElem?_toArray] at y1
        clear x1 x0
        gi_wp2_with fail
        go_roundw
        case rel => exact ⟨j + 1, by omega, by rw [← HZ.out], by rw [seqTo_succ hlt]; exact hJ3, hn3⟩
        case measure => simp [intOf]; omega
      · gi_wp2_with fail
        refine bodyPost_ret (results_none rfl _ _ _) rfl ?_
        exact ⟨⟨_, rfl⟩, .inr ⟨_, trivial, hJx3⟩⟩
    · obtain rfl : j = C := by omega
      rw [← HS.out] at hu
      subst hu
      gi_wp2_with fail
      go_end0
      exact ⟨⟨_, rfl⟩, .inl ⟨_, rfl, hJs⟩⟩
end Go.Proofs.Ytcpcndacodcopaa
/- How a block is cut: of the code and of the reference. Rules. -/
namespace Go.Proofs.Ytcpcndacodcopaa
open Go.RowKit Go.Shelf
/-- Divided, rounded up. -/
def ceilN (a b : Nat) : Nat := (a + b - 1) / b
theorem ceilN_eq {a b : Nat} (hb : 0 < b) : ceilN a b = if a % b = 0 then a / b else a / b + 1 := by
  unfold ceilN
  have h := Nat.div_add_mod a b
  have hr := Nat.mod_lt a hb
  generalize a / b = q at *
  generalize a % b = r at *
  by_cases h0 : r = 0
  · rw [if_pos h0, show a + b - 1 = b * q + (b - 1) by omega, Nat.mul_add_div hb, Nat.div_eq_of_lt (by omega)]; rfl
  · rw [if_neg h0, show a + b - 1 = b * (q + 1) + (r - 1) by rw [Nat.mul_add]; omega, Nat.mul_add_div hb, Nat.div_eq_of_lt (by omega)]
theorem ceilN_le {a b : Nat} (hb : 0 < b) : ceilN a b ≤ a := by
  rw [ceilN_eq hb]
  split
  · exact Nat.div_le_self _ _
  · rename_i h
    rcases Nat.lt_or_ge a b with h1 | h1
    · have : a / b = 0 := Nat.div_eq_of_lt h1
      rcases Nat.eq_zero_or_pos a with h2 | h2
      · subst h2; simp at h
      · omega
    · by_cases hb1 : b = 1
      · subst hb1; exact absurd (Nat.mod_one a) h
      · have := Nat.div_lt_self (show 0 < a by omega) (show 1 < b by omega)
        omega
theorem ceilN_pos {a b : Nat} (hb : 0 < b) (ha : 0 < a) : 0 < ceilN a b := by
  unfold ceilN
  exact Nat.div_pos (by omega) hb
theorem ceilN_mul {a b : Nat} (hb : 0 < b) : a ≤ ceilN a b * b ∧ ceilN a b * b < a + b := by
  unfold ceilN
  have h := Nat.div_add_mod (a + b - 1) b
  have hr := Nat.mod_lt (a + b - 1) hb
  rw [Nat.mul_comm] at h
  omega
set_option maxHeartbeats 1000000 in
theorem dividedUp_any (a b : Nat) (w : World) (hb : 0 < b) (ha : a ≤ 1000000) (hb9 : b ≤ 1000000) :
    Calls Try.prog 86 #[.int .i64 (a : Int), .int .i64 (b : Int)] w fun e w' => e = .returned (.int .i64 ((ceilN a b : Nat) : Int)) ∧ w = w' := by
  obtain ⟨s, hs⟩ : ∃ s, s = a + b - 1 := ⟨_, rfl⟩
  have q1 : IntKind.i64.wrap ((a : Int) + (b : Int)) = (a : Int) + (b : Int) := IntWalk.i64_in _ (by omega)
  have q2 : IntKind.i64.wrap ((a : Int) + (b : Int) - 1) = (s : Int) := by rw [IntWalk.i64_in _ (by omega)]; omega
  have hb0 : ¬ (b : Int) = 0 := by omega
  obtain ⟨z, hz⟩ : ∃ z : Nat, z = s / b := ⟨_, rfl⟩
  have HC := hide (show ceilN a b = z from by rw [hz, hs]; rfl)
  have hs9 : s ≤ 2000000 := by omega
  have hzs : z ≤ s := by rw [hz]; exact Nat.div_le_self s b
  have qd : IntKind.i64.wrap ((s : Int) / (b : Int)) = (z : Int) := by
    have e : (s : Int) / (b : Int) = (z : Int) := by rw [hz]; exact (Int.natCast_ediv s b).symm
    rw [e]
    exact IntWalk.i64_in _ (by omega)
  clear hs hz
  go_enter Try.func86, Try.ntmps86
  go_wp2_with fail
  go_ret
  exact ⟨ret_int (by rw [HC.out]), rfl⟩
theorem neg_tdiv_nat (a b : Nat) : (-(a : Int)).tdiv (b : Int) = -((a / b : Nat) : Int) := by
  rw [Int.neg_tdiv]
  rfl
theorem neg_tmod_nat (a b : Nat) : (-(a : Int)).tmod (b : Int) = -((a % b : Nat) : Int) := by
  rw [Int.neg_tmod]
  rfl
set_option maxHeartbeats 1000000 in
theorem floor_neg (a b : Nat) (w : World) (hb : 0 < b) (ha : a ≤ 1000000) (hb9 : b ≤ 1000000) :
    Calls Try.prog 72 #[.int .i64 (-(a : Int)), .int .i64 (b : Int)] w fun e w' => e = .returned (.int .i64 (-((ceilN a b : Nat) : Int))) ∧ w = w' := by
  have HE := hide (ceilN_eq (a := a) hb)
  have hd := Nat.div_le_self a b
  have hm := Nat.mod_le a b
  have hb0 : ¬ (b : Int) = 0 := by omega
  obtain ⟨n, hn⟩ : ∃ n : Int, n = -(a : Int) := ⟨_, rfl⟩
  have e1 := neg_tdiv_nat a b
  have e2 := neg_tmod_nat a b
  rw [← hn] at e1 e2 ⊢
  have hn9 : -1000000 ≤ n ∧ n ≤ 0 := by omega
  generalize a / b = q at *
  generalize a % b = r at *
  have q0 : IntKind.i64.wrap (-(q : Int)) = -(q : Int) := IntWalk.i64_in _ (by omega)
  clear hn
  by_cases hr : r = 0
  · subst hr
    have e2' : n.tmod (b : Int) = 0 := e2
    have HC := hide (show ceilN a b = q from by rw [HE.out, if_pos rfl])
    clear e2
    go_enter Try.func72, Try.ntmps72
    go_wp2_with fail
    go_ret
    exact ⟨ret_int (by rw [HC.out]), rfl⟩
  · have t1 : decide (-(r : Int) < 0) = true := by simp; omega
    have HC := hide (show ceilN a b = q + 1 from by rw [HE.out, if_neg hr])
    have q1 : IntKind.i64.wrap (-(q : Int) - 1) = -(q : Int) - 1 := IntWalk.i64_in _ (by omega)
    go_enter Try.func72, Try.ntmps72
    go_wp2_with fail
    go_ret
    exact ⟨ret_int (by rw [HC.out]; omega), rfl⟩
set_option maxHeartbeats 1000000 in
theorem ceil_any (a b : Nat) (w : World) (hb : 0 < b) (ha : a ≤ 1000000) (hb9 : b ≤ 1000000) :
    Calls Try.prog 31 #[.int .i64 (a : Int), .int .i64 (b : Int)] w fun e w' => e = .returned (.int .i64 ((ceilN a b : Nat) : Int)) ∧ w = w' := by
  have HF := hide (fun W => floor_neg a b W hb ha hb9)
  have hc := ceilN_le (a := a) hb
  have q0 : IntKind.i64.wrap (-(a : Int)) = -(a : Int) := IntWalk.i64_in _ (by omega)
  obtain ⟨x, hx⟩ : ∃ x, x = ceilN a b := ⟨_, rfl⟩
  rw [← hx] at HF hc ⊢
  have q1 : IntKind.i64.wrap (x : Int) = (x : Int) := IntWalk.i64_in _ (by omega)
  clear hx
  go_enter Try.func31, Try.ntmps31
  go_wp2_with fail
  refine (HF.out _).mono ?_
  rintro e w' ⟨rfl, rfl⟩
  go_wp2_with fail
  go_ret
  exact ⟨ret_int (by first | rfl | simp), rfl⟩
/-- The error of a rule. -/
def ruleErrI (d t M : Int) : Int := firstE [polyErrI d t, unI (withinB M (d + 1) 100) 2]
/-- A rule that is right. -/
structure RuleOk (d t M : Int) (x y m : Nat) : Prop where
  ed : d = x
  et : t = y
  em : M = m
  d0 : 1 ≤ x
  d1 : x ≤ 16
  t1 : y < 2 ^ x
  m0 : x < m
  m9 : m ≤ 100
theorem ruleErr_zero {d t M : Int} (h : ruleErrI d t M = 0) : ∃ x y m, RuleOk d t M x y m := by
  obtain ⟨h1, h⟩ := firstE_zero_cons h
  obtain ⟨h2, -⟩ := firstE_zero_cons h
  have h2 := withinB_of (unI_zero (by decide) h2)
  obtain ⟨g1, g2, g3, g4, -⟩ := poly_of h1
  obtain ⟨x, rfl⟩ := Int.eq_ofNat_of_zero_le (show 0 ≤ d by omega)
  obtain ⟨y, rfl⟩ := Int.eq_ofNat_of_zero_le (show 0 ≤ t by omega)
  obtain ⟨m, rfl⟩ := Int.eq_ofNat_of_zero_le (show 0 ≤ M by omega)
  rw [Int.toNat_natCast] at g4
  have : ((2 ^ x : Nat) : Int) = (2 : Int) ^ x := by simp
  exact ⟨x, y, m, rfl, rfl, rfl, by omega, by omega, by omega, by omega, by omega⟩
theorem ruleErr_of (d t M v : Int) (h : polyErrI d t = 0 → v = d + 1) : firstE [polyErrI d t, unI (withinB M v 100) 2] = ruleErrI d t M := by
  unfold ruleErrI
  by_cases h1 : polyErrI d t = 0
  · rw [h h1]
  · rw [firstE_cons, if_neg h1, firstE_cons, if_neg h1]
theorem wrap_succ {d t : Int} (h : polyErrI d t = 0) : IntKind.i64.wrap (d + 1) = d + 1 := by
  obtain ⟨g1, g2, -⟩ := poly_of h
  exact IntWalk.i64_in _ (by omega)
theorem bstep4 {B : Nat} {w1 W w2 : World} {p q r : Prop} (hb : Below W.heap.size W w2) (h : p ∧ q ∧ r ∧ Below B w1 W) (hB : B ≤ w1.heap.size) : Below B w1 w2 := h.2.2.2.trans (hb.mono (Nat.le_trans hB h.2.2.2.size))
theorem rule_cells {W : World} {b : Nat} {d t M : Int} (bx : Box W b 25 #[.int .i64 d, .int .i64 t, .int .i64 M]) :
    W.cell? ⟨b, 0, none⟩ = some (.int .i64 d) ∧ W.cell? ⟨b, 1, none⟩ = some (.int .i64 t) ∧ W.cell? ⟨b, 2, none⟩ = some (.int .i64 M) ∧ b < W.heap.size := ⟨bx.at_ 0, bx.at_ 1, bx.at_ 2, bx.lt⟩
set_option maxHeartbeats 2000000 in
theorem ruleError_any (d t M : Int) (w : World) :
    Calls Try.prog 44 #[.agg #[.int .i64 d, .int .i64 t, .int .i64 M]] w fun e w' => e = .returned (.int .i64 (ruleErrI d t M)) ∧ Below w.heap.size w w' := by
  have HFE := hide (ruleErr_of d t M (IntKind.i64.wrap (d + 1)) wrap_succ)
  go_enter Try.func44, Try.ntmps44
  go_wp2_with fail
  generalize hW : World.alloc w _ = W
  have bx : Box W w.heap.size 25 #[.int .i64 d, .int .i64 t, .int .i64 M] := by rw [← hW]; exact Box.made rfl
  have hB : Below w.heap.size w W := by rw [← hW]; exact (Below.refl _ _).alloc (Nat.le_refl _) _
  clear hW
  obtain ⟨x0, x1, x2, -⟩ := rule_cells bx
  have hz : w.heap.size + 1 ≤ W.heap.size := bx.lt
  have SOF := hide (fun W' (h : Below (w.heap.size + 1) W W') => (⟨(h.cell (p := ⟨w.heap.size, 0, none⟩) (by simp)).trans x0, (h.cell (p := ⟨w.heap.size, 1, none⟩) (by simp)).trans x1, (h.cell (p := ⟨w.heap.size, 2, none⟩) (by simp)).trans x2, h⟩ :
     W'.cell? ⟨w.heap.size, 0, none⟩ = some (.int .i64 d) ∧ W'.cell? ⟨w.heap.size, 1, none⟩ = some (.int .i64 t) ∧ W'.cell? ⟨w.heap.size, 2, none⟩ = some (.int .i64 M) ∧ Below (w.heap.size + 1) W W'))
  have b0 : Below (w.heap.size + 1) W W := Below.refl _ _
  have HBB := hide hB
  clear x0 x1 x2 hB bx
  go_region_held3 (fun w' => w'.cell? ⟨w.heap.size, 0, none⟩ = some (.int .i64 d) ∧ w'.cell? ⟨w.heap.size, 1, none⟩ = some (.int .i64 t) ∧ w'.cell? ⟨w.heap.size, 2, none⟩ = some (.int .i64 M) ∧ Below (w.heap.size + 1) W w')
      (first | assumption | exact SOF.out _ (by assumption) | exact SOF.out _ b0.drew | exact SOF.out _ (balloc' (by assumption) hz _))
      (first
        | (go_at_call 81; refine (checkPoly_any d t _).mono ?_; rintro e w2 ⟨rfl, hb2⟩; have hs2 : Below (w.heap.size + 1) W w2 := bstep4 hb2 (by assumption) hz)
        | (go_at_call 66; refine (isWithin_any _ _ _ _).mono ?_; rintro e w3 ⟨rfl, rfl⟩)
        | (go_at_call 52; refine (unless_any _ _ _).mono ?_; rintro e w4 ⟨rfl, rfl⟩)
        | (go_at_call 43; refine (firstError_laid [polyErrI d t, unI (withinB M _ 100) 2] 2 _ _ rfl (by decide)).mono ?_; rintro e w6 ⟨rfl, rfl⟩))
  go_wp2_with fail
  go_ret
  have hB3 := HBB.out.trans (hs2.mono (by omega))
  exact ⟨ret_int HFE.out, hB3.alloc hB3.size _⟩
set_option maxHeartbeats 2000000 in
theorem ruleErrR_any (d t M : Int) (w : World) :
    Calls Try.prog 9 #[.agg #[.int .i64 d, .int .i64 t, .int .i64 M]] w fun e w' => e = .returned (.int .i64 (ruleErrI d t M)) ∧ Below w.heap.size w w' := by
  by_cases h1 : polyErrI d t = 0
  · have HW := hide (wrap_succ h1)
    have q1 : IntKind.i64.wrap (d + 1) = d + 1 := wrap_succ h1
    have HP := hide (fun W => checkPolyR_any d t W)
    rw [h1] at HP
    cases h2 : withinB M (d + 1) 100
    all_goals
      have HE := hide (show ruleErrI d t M = _ from by unfold ruleErrI; rw [firstE_cons, if_pos h1, h2])
      generalize ruleErrI d t M = R at *
      clear h1
      go_enter Try.func9, Try.ntmps9
      go_wp2_with fail
      refine (HP.out _).mono ?_
      rintro e w1 ⟨rfl, hb1⟩
      have bx1 : Box w1 w.heap.size 25 #[.int .i64 d, .int .i64 t, .int .i64 M] := (Box.made rfl).below hb1
      have hB1 := below_of_alloc hb1
      obtain ⟨x0, x1, x2, hl⟩ := rule_cells bx1
      go_wp2_with fail
      refine (within_any _ _ _ _).mono ?_
      rintro e w2 ⟨rfl, rfl⟩
      rw [h2]
      go_wp2_with fail
      go_ret
      exact ⟨ret_int (by rw [HE.out]; rfl), hB1⟩
  · have HE := hide (show ruleErrI d t M = polyErrI d t from by unfold ruleErrI; rw [firstE_cons, if_neg h1])
    have HP := hide (fun W => checkPolyR_any d t W)
    have t1 : (polyErrI d t != 0) = true := by simpa using h1
    generalize ruleErrI d t M = R at *
    generalize polyErrI d t = r at *
    clear h1
    go_enter Try.func9, Try.ntmps9
    go_wp2_with fail
    refine (HP.out _).mono ?_
    rintro e w1 ⟨rfl, hb1⟩
    go_wp2_with fail
    go_ret
    exact ⟨ret_int HE.out.symm, below_of_alloc hb1⟩
/-- How many segments, and how many bits each one has ahead of its check. -/
def cntN (x m n : Nat) : Nat := ceilN n (m - x)
def aheadN (x m n : Nat) : Nat := ceilN n (cntN x m n)
theorem cut_facts {x m n : Nat} (hx : x < m) (hm : m ≤ 100) (n0 : 0 < n) (hn : n ≤ 200) : 0 < cntN x m n ∧ cntN x m n ≤ 200 ∧ 0 < aheadN x m n ∧ aheadN x m n ≤ m - x ∧ n ≤ cntN x m n * aheadN x m n ∧ cntN x m n * aheadN x m n < n + cntN x m n := by
  have hp : 0 < m - x := by omega
  have h1 : 0 < cntN x m n := ceilN_pos hp n0
  have h2 : cntN x m n ≤ n := ceilN_le hp
  have h3 : 0 < aheadN x m n := ceilN_pos h1 n0
  have h4 := ceilN_mul (a := n) hp
  have h5 := ceilN_mul (a := n) h1
  refine ⟨h1, by omega, h3, ?_, ?_, ?_⟩
  · refine Classical.byContradiction fun hno => ?_
    have h6 : (m - x + 1) * cntN x m n ≤ aheadN x m n * cntN x m n := Nat.mul_le_mul_right _ (by omega)
    have h7 : aheadN x m n * cntN x m n < n + cntN x m n := h5.2
    have h8 : n ≤ cntN x m n * (m - x) := h4.1
    rw [Nat.add_mul, Nat.one_mul, Nat.mul_comm] at h6
    omega
  · rw [Nat.mul_comm]; exact h5.1
  · rw [Nat.mul_comm]; exact h5.2
set_option maxHeartbeats 2000000 in
theorem cutOf_any (x y m n : Nat) (w : World) (hx : x < m) (hm : m ≤ 100) (n0 : 0 < n) (hn : n ≤ 200) :
    Calls Try.prog 46 #[.agg #[.int .i64 (x : Int), .int .i64 (y : Int), .int .i64 (m : Int)], .int .i64 (n : Int)] w fun e w' => e = .returned (.agg #[.int .i64 ((cntN x m n : Nat) : Int), .int .i64 ((aheadN x m n : Nat) : Int), .int .i64 ((cntN x m n * aheadN x m n - n : Nat) : Int)]) ∧ Below w.heap.size w w' := by
  obtain ⟨c1, c2, c3, c4, c5, c6⟩ := cut_facts hx hm n0 hn
  obtain ⟨p, hp⟩ : ∃ p : Nat, p = m - x := ⟨_, rfl⟩
  have q1 : IntKind.i64.wrap ((m : Int) - (x : Int)) = (p : Int) := by rw [IntWalk.i64_in _ (by omega)]; omega
  have HD1 := hide (fun W => dividedUp_any n p W (by omega) (by omega) (by omega))
  have HD2 := hide (fun W => dividedUp_any n (cntN x m n) W c1 (by omega) (by omega))
  rw [show ceilN n p = cntN x m n from by rw [hp]; rfl] at HD1
  rw [show ceilN n (cntN x m n) = aheadN x m n from rfl] at HD2
  generalize cntN x m n = c at *
  generalize aheadN x m n = a at *
  obtain ⟨s, hs⟩ : ∃ s : Nat, s = c * a := ⟨_, rfl⟩
  rw [← hs] at c5 c6 ⊢
  have hsz : (c : Int) * (a : Int) = (s : Int) := by rw [hs]; simp
  obtain ⟨f, hf⟩ : ∃ f : Nat, f = s - n := ⟨_, rfl⟩
  rw [← hf]
  have q2 : IntKind.i64.wrap ((c : Int) * (a : Int)) = (s : Int) := by rw [hsz]; exact IntWalk.i64_in _ (by omega)
  have q3 : IntKind.i64.wrap ((s : Int) - (n : Int)) = (f : Int) := by rw [IntWalk.i64_in _ (by omega)]; omega
  clear hs hsz hf hp
  go_enter Try.func46, Try.ntmps46
  go_wp2_with fail
  refine (HD1.out _).mono ?_
  rintro e w1 ⟨rfl, rfl⟩
  go_wp2_with fail
  refine (HD2.out _).mono ?_
  rintro e w1 ⟨rfl, rfl⟩
  go_wp2_with fail
  refine bodyPost_ret (v := .agg #[.int .i64 (c : Int), .int .i64 (a : Int), .int .i64 (f : Int)]) ?_ rfl ⟨rfl, by (repeat (first | (with_reducible exact Below.refl _ _) | (with_reducible refine below_drewN ?_ _) | (with_reducible refine Below.drew ?_) | (with_reducible refine Below.alloc ?_ (by first | exact Nat.le_refl _ | (simp; done) | (simp; omega) | omega) _) | (with_reducible refine Below.setCell ?_ (by first | exact Nat.le_refl _ | (simp; done) | (simp; omega) | omega) _)))⟩
  have hy := (Box.made (by simp) : Box ((w.alloc (.cells #[.int .i64 (x : Int), .int .i64 (y : Int), .int .i64 (m : Int)] 25)).alloc (.cells #[.int .i64 (c : Int), .int .i64 (a : Int), .int .i64 (f : Int)] 90)) (w.heap.size + 1) 90 #[.int .i64 (c : Int), .int .i64 (a : Int), .int .i64 (f : Int)])
  have z0 := hy.at_ 0
  have z1 := hy.at_ 1
  have z2 := hy.at_ 2
  simp at z0 z1 z2
  simp [results, Try.results46, go_sem, z0, z1, z2]
end Go.Proofs.Ytcpcndacodcopaa
/- The error of a segment; whether a number stands in a list; what is joined (without a walk). -/
namespace Go.Proofs.Ytcpcndacodcopaa
open Go.RowKit Go.Shelf
/-- Are the last d of n bits the remainder of those ahead? -/
def rightB (d t n : Nat) (F : Nat → Int) : Bool := intsB d (remB d t (n - d) F) d (fun j => F (n - d + j))
def segErrI (d t a n : Nat) (F : Nat → Int) : Int := if n = a + d then (if bitsB n F = true then (if rightB d t n F = true then 0 else 21) else 15) else 10
theorem areBits_b (A : Option Addr) (n c : Nat) (F : Nat → Int) (w : World) (hn : n ≤ 100000) (hI : IntsAt w 0 A n F) :
    Calls Try.prog 85 #[.slice A n c] w fun e w' => e = .returned (.bool (bitsB n F)) ∧ Below w.heap.size w w' :=
  (areBits_any A n c F w hn hI).mono fun _ _ ⟨h, q, hq⟩ => ⟨h, by rw [hq]; exact below_drewN (Below.refl _ _) q⟩
set_option maxHeartbeats 2000000 in
theorem segmentError_any (d t a n c : Nat) (A : Option Addr) (F : Nat → Int) (w : World) (h0 : 1 ≤ d) (h1 : d ≤ 16) (t1 : t < 2 ^ d) (a0 : 0 < a) (a9 : a ≤ 1000) (hn : n ≤ 100000) (hnc : n ≤ c) (hc : c ≤ 9223372036854775807) (hI : IntsAt w 0 A n F) :
    Calls Try.prog 64 #[.agg #[.int .i64 (d : Int), .int .i64 (t : Int)], .slice A n c, .int .i64 (a : Int)] w fun e w' => e = .returned (.int .i64 (segErrI d t a n F)) ∧ Below w.heap.size w w' := by
  have HI := hide hI
  have q1 : IntKind.i64.wrap ((a : Int) + (d : Int)) = (a : Int) + (d : Int) := IntWalk.i64_in _ (by omega)
  clear hI
  by_cases hna : n = a + d
  · obtain ⟨b, o, rfl, -, -, -⟩ := HI.out 0 (by omega)
    have t2 : ((n : Int) != (a : Int) + (d : Int)) = false := by simp; omega
    have HAB := hide (fun W hW => areBits_b (some ⟨b, o, none⟩) n c F W hn hW)
    cases hb : bitsB n F
    · have HE := hide (show segErrI d t a n F = 15 from by unfold segErrI; rw [if_pos hna, hb]; rfl)
      rw [hb] at HAB
      generalize segErrI d t a n F = R at *
      clear hna
      go_enter Try.func64, Try.ntmps64
      go_wp2_with fail
      refine (HAB.out _ (HI.out.alloc _)).mono ?_
      rintro e w1 ⟨rfl, hb1⟩
      go_wp2_with fail
      go_ret
      exact ⟨ret_int HE.out.symm, below_of_alloc hb1⟩
    · have hbits := bitsB_iff.1 hb
      have HR := hide (fun W hW => isRight_any d t b o n c F W h0 h1 t1 (by omega) hn hnc hc hW hbits)
      have HE := hide (show segErrI d t a n F = if rightB d t n F = true then 0 else 21 from by unfold segErrI; rw [if_pos hna, hb]; rfl)
      rw [hb] at HAB
      rw [show intsB d (remB d t (n - d) F) d (fun j => F (n - d + j)) = rightB d t n F from rfl] at HR
      generalize segErrI d t a n F = R at *
      clear hna hbits
      cases hr : rightB d t n F
      all_goals
        rw [hr] at HR HE
        go_enter Try.func64, Try.ntmps64
        go_wp2_with fail
        refine (HAB.out _ (HI.out.alloc _)).mono ?_
        rintro e w1 ⟨rfl, hb1⟩
        have bx1 : Box w1 w.heap.size 23 #[.int .i64 (d : Int), .int .i64 (t : Int)] := (Box.made rfl).below hb1
        have hB1 := below_of_alloc hb1
        have x0 := bx1.at_ 0
        have x1 := bx1.at_ 1
        simp only [List.getElem?_toArray] at x0 x1
        have hl := bx1.lt
        go_wp2_with fail
        refine (HR.out _ (HI.out.below hB1)).mono ?_
        rintro e w2 ⟨rfl, hb2⟩
        go_wp2_with fail
        go_ret
        exact ⟨ret_int (by rw [HE.out]; rfl), hB1.trans (hb2.mono hB1.size)⟩
  · have t2 : ((n : Int) != (a : Int) + (d : Int)) = true := by simp; omega
    have HE := hide (show segErrI d t a n F = 10 from if_neg hna)
    generalize segErrI d t a n F = R at *
    clear hna
    go_enter Try.func64, Try.ntmps64
    go_wp2_with fail
    go_ret
    exact ⟨ret_int HE.out.symm, by (repeat (first | (with_reducible exact Below.refl _ _) | (with_reducible refine below_drewN ?_ _) | (with_reducible refine Below.drew ?_) | (with_reducible refine Below.alloc ?_ (by first | exact Nat.le_refl _ | (simp; done) | (simp; omega) | omega) _) | (with_reducible refine Below.setCell ?_ (by first | exact Nat.le_refl _ | (simp; done) | (simp; omega) | omega) _)))⟩
set_option maxHeartbeats 1000000 in
theorem index_any (A : Option Addr) (n c : Nat) (F : Nat → Int) (x : Int) (w : World) (hn : n ≤ 100000) (hI : IntsAt w 0 A n F) :
    Calls Try.prog 97 #[.slice A n c, .int .i64 x] w fun e w' => ∃ r : Int, e = .returned (.int .i64 r) ∧ (0 ≤ r ↔ ∃ j, j < n ∧ F j = x) ∧ w = w' := by
  have HI := hide hI
  clear hI
  go_enter Try.func97, Try.ntmps97
  go_wp2_with fail
  go_loopw [8] (fun i wr => ∃ k : Nat, k ≤ n ∧ i = .int .i64 k ∧ wr = w ∧ Hid (∀ j, j < k → F j ≠ x)) (fun i _ => n - (intOf i).toNat)
  case atStart => exact ⟨0, Nat.zero_le _, rfl, rfl, hide fun j h => absurd h (Nat.not_lt_zero _)⟩
  case round =>
    obtain ⟨k, hk, rfl, rfl, HZ⟩ := hrel
    by_cases hlt : k < n
    · have hltz : (k : Int) < (n : Int) := by omega
      obtain ⟨b, o, rfl, -, hb, hcell⟩ := HI.out k hlt
      by_cases he : F k = x
      · have t1 : (x == F k) = true := by simp [he]
        have HE := hide he
        clear he
        go_wp2_with fail
        go_ret
        exact ⟨_, rfl, ⟨fun _ => ⟨k, hlt, HE.out⟩, fun _ => by omega⟩, rfl⟩
      · have t1 : (x == F k) = false := by simp; exact fun h => he h.symm
        have HE := hide he
        clear he
        go_wp2_with fail
        go_roundw
        case rel => exact ⟨k + 1, by omega, by go_num, trivial, hide fun j hj => (by
          rcases Nat.lt_or_ge j k with h | h
          · exact HZ.out j h
          · obtain rfl : j = k := by omega
            exact HE.out)⟩
        case measure => simp [intOf]; omega
    · obtain rfl : k = n := by omega
      go_wp2_with fail
      go_ret
      exact ⟨_, rfl, ⟨fun h => absurd h (by decide), fun ⟨j, hj, e⟩ => absurd e (HZ.out j hj)⟩, rfl⟩
/-- Does a number stand in a list? -/
def hasB (n : Nat) (F : Nat → Int) (x : Int) : Bool := anyN n fun j => F j == x
theorem hasB_iff {n : Nat} {F : Nat → Int} {x : Int} : hasB n F x = true ↔ ∃ j, j < n ∧ F j = x := by
  unfold hasB
  rw [anyN_iff]
  simp
set_option maxHeartbeats 1000000 in
theorem contains_any (A : Option Addr) (n c : Nat) (F : Nat → Int) (x : Int) (w : World) (hn : n ≤ 100000) (hI : IntsAt w 0 A n F) :
    Calls Try.prog 65 #[.slice A n c, .int .i64 x] w fun e w' => e = .returned (.bool (hasB n F x)) ∧ w = w' := by
  have HI := hide hI
  clear hI
  go_enter Try.func65, Try.ntmps65
  go_wp2_with fail
  refine (index_any A n c F x _ hn HI.out).mono ?_
  rintro e w1 ⟨r, rfl, hr, rfl⟩
  have HR := hide hr
  clear hr
  by_cases h0 : 0 ≤ r
  · have t1 : decide (0 ≤ r) = true := by simpa using h0
    have HE := hide (hasB_iff.2 (HR.out.1 h0))
    clear h0
    go_wp2_with fail
    go_ret
    exact ⟨ret_bool HE.out.symm, rfl⟩
  · have t1 : decide (0 ≤ r) = false := by simpa using h0
    have HE := hide (show hasB n F x = false from by rw [← Bool.not_eq_true, hasB_iff]; exact fun h => h0 (HR.out.2 h))
    clear h0
    go_wp2_with fail
    go_ret
    exact ⟨ret_bool HE.out.symm, rfl⟩
/-- The bits of segments of a bits each, one behind the other. -/
def allF (a : Nat) (F : Nat → Nat → Int) (j : Nat) : Int := F (j / a) (j % a)
theorem allF_snoc {a k : Nat} {F : Nat → Nat → Int} (ha : 0 < a) {j : Nat} (hj : j < k * a + a) : catF (k * a) (allF a F) (F k) j = allF a F j := by
  unfold catF
  by_cases h : j < k * a
  · rw [if_pos h]
  · rw [if_neg h]
    obtain ⟨r, hr⟩ : ∃ r, r = j - k * a := ⟨_, rfl⟩
    have e : j = a * k + r := by rw [Nat.mul_comm]; omega
    unfold allF
    rw [← hr, e, Nat.mul_add_div ha, Nat.mul_add_mod, Nat.div_eq_of_lt (by omega), Nat.mod_eq_of_lt (by omega)]
    rfl
/-- The number of the first error. -/
def firstIdx (g : Nat → Int) : Nat → Nat
  | 0 => 0
  | n + 1 => if firstBad g n = 0 then n else firstIdx g n
theorem firstIdx_at {g : Nat → Int} {k : Nat} (h : firstBad g k = 0) (hk : g k ≠ 0) : ∀ n, k < n → firstIdx g n = k
  | 0, hn => absurd hn (Nat.not_lt_zero _)
  | n + 1, hn => by
    unfold firstIdx
    rcases Nat.lt_or_ge k n with h1 | h1
    · have := firstBad_at h hk n h1
      rw [this, if_neg hk]
      exact firstIdx_at h hk n h1
    · obtain rfl : k = n := by omega
      rw [if_pos h]
/-- What joining n segments gives: an error, the number beside it, and which bits. -/
def joinErrI (x y m len n : Nat) (L : Nat → Nat) (F : Nat → Nat → Int) : Int :=
  if n = cntN x m len then
    (if firstBad (fun i => segErrI x y (aheadN x m len) (L i) (F i)) n = 0 then (if hasB (cntN x m len * aheadN x m len - len) (allF (aheadN x m len) F) 1 = true then 3 else 0)
     else firstBad (fun i => segErrI x y (aheadN x m len) (L i) (F i)) n)
  else 10
def joinNum (x y m len n : Nat) (L : Nat → Nat) (F : Nat → Nat → Int) : Nat :=
  if n = cntN x m len then (if firstBad (fun i => segErrI x y (aheadN x m len) (L i) (F i)) n = 0 then 0 else firstIdx (fun i => segErrI x y (aheadN x m len) (L i) (F i)) n) else 0
def joinF (x m len : Nat) (F : Nat → Nat → Int) (j : Nat) : Int := allF (aheadN x m len) F (cntN x m len * aheadN x m len - len + j)
def GaveJoin (err : Int) (num : Nat) (len : Nat) (G : Nat → Int) (w : World) (e : Ending) (w' : World) : Prop :=
  (∃ v, e = .returned (.tuple #[v, .int .i64 (num : Int), .int .i64 err]) ∧ ((err ≠ 0 ∧ v = .slice none 0 0) ∨ (err = 0 ∧ ∃ A c, v = .slice A len c ∧ IntsAt w' 0 A len G))) ∧ Below w.heap.size w w'
theorem segErr_zero {d t a n : Nat} {F : Nat → Int} (h : segErrI d t a n F = 0) : n = a + d ∧ ∀ k, k < n → IsBit (F k) := by
  unfold segErrI at h
  by_cases h1 : n = a + d
  · rw [if_pos h1] at h
    by_cases h2 : bitsB n F = true
    · exact ⟨h1, bitsB_iff.1 h2⟩
    · rw [if_neg h2] at h; exact absurd h (by decide)
  · rw [if_neg h1] at h; exact absurd h (by decide)
theorem joinErr_def (x y m len n : Nat) (L : Nat → Nat) (F : Nat → Nat → Int) : joinErrI x y m len n L F = if n = cntN x m len then
    (if firstBad (fun i => segErrI x y (aheadN x m len) (L i) (F i)) n = 0 then (if hasB (cntN x m len * aheadN x m len - len) (allF (aheadN x m len) F) 1 = true then 3 else 0)
     else firstBad (fun i => segErrI x y (aheadN x m len) (L i) (F i)) n)
  else 10 := rfl
theorem joinNum_def (x y m len n : Nat) (L : Nat → Nat) (F : Nat → Nat → Int) : joinNum x y m len n L F = if n = cntN x m len then (if firstBad (fun i => segErrI x y (aheadN x m len) (L i) (F i)) n = 0 then 0 else firstIdx (fun i => segErrI x y (aheadN x m len) (L i) (F i)) n) else 0 := rfl
theorem joinF_def (x m len : Nat) (F : Nat → Nat → Int) : joinF x m len F = fun j => allF (aheadN x m len) F (cntN x m len * aheadN x m len - len + j) := rfl
theorem OwnInts.made (w : World) (base g f : Nat) (hb : base ≤ w.heap.size) (hg : g = w.heap.size) (hf : f ≤ maxLen) : OwnInts (w.alloc (.cells (madeCells #[.int .i64 0] f) 3)) base (.slice (some ⟨g, 0, none⟩) f f) f (fun _ => 0) :=
  hg ▸ ⟨by rw [intCells_len, Nat.mul_one], .inr ⟨w.heap.size, f, _, rfl, hb, heap_alloc_new w _, Nat.le_refl _, hf, by simp [madeCells], by
    apply List.ext_getElem?
    intro j
    rw [intCells_get, Nat.mul_one]
    by_cases hj : j < f
    · rw [if_pos hj]; simp [madeCells, hj, Nat.mod_one]
    · rw [if_neg hj]; simp [madeCells, hj]⟩⟩
end Go.Proofs.Ytcpcndacodcopaa
/- Segments of the reference. -/
namespace Go.Proofs.Ytcpcndacodcopaa
open Go.RowKit Go.Shelf
/-- The block with zeros ahead. -/
def fillF (f : Nat) (B : Nat → Int) : Nat → Int := catF f (fun _ => 0) B
/-- The segment i of a block: a bits, and their check. -/
def segF (x y a f : Nat) (B : Nat → Int) (i : Nat) : Nat → Int := catF a (fun k => fillF f B (i * a + k)) (remB x y a (fun k => fillF f B (i * a + k)))
theorem fillF_bit {f n : Nat} {B : Nat → Int} (h : ∀ k, k < n → IsBit (B k)) : ∀ k, k < f + n → IsBit (fillF f B k) := fun k hk => by
  unfold fillF catF
  split
  · exact .inl rfl
  · exact h _ (by omega)
end Go.Proofs.Ytcpcndacodcopaa
/- Joined of the code. -/
namespace Go.Proofs.Ytcpcndacodcopaa
open Go.RowKit Go.Shelf
theorem cutb_cells {W : World} {b : Nat} {d t M : Int} (bx : Box W b 90 #[.int .i64 d, .int .i64 t, .int .i64 M]) :
    W.cell? ⟨b, 0, none⟩ = some (.int .i64 d) ∧ W.cell? ⟨b, 1, none⟩ = some (.int .i64 t) ∧ W.cell? ⟨b, 2, none⟩ = some (.int .i64 M) ∧ b < W.heap.size := ⟨bx.at_ 0, bx.at_ 1, bx.at_ 2, bx.lt⟩
set_option maxHeartbeats 8000000 in
set_option maxRecDepth 100000 in
theorem Joined_ok (x y m len n c : Nat) (A : Option Addr) (L : Nat → Nat) (F : Nat → Nat → Int) (w : World) (hr0 : ruleErrI x y m = 0) (h0 : 1 ≤ x) (h1 : x ≤ 16) (t1 : y < 2 ^ x) (hx : x < m) (hm : m ≤ 100) (l0 : 0 < len) (l9 : len ≤ 200) (hn : n ≤ 1000) (hL : ∀ i, i < n → L i ≤ 100000) (hI : ListsAt w 0 A n L F) :
    Calls Try.prog 22 #[.agg #[.int .i64 (x : Int), .int .i64 (y : Int), .int .i64 (m : Int)], .slice A n c, .int .i64 (len : Int)] w (GaveJoin (joinErrI x y m len n L F) (joinNum x y m len n L F) len (joinF x m len F) w) := by
  obtain ⟨c1, c2, c3, c4, c5, c6⟩ := cut_facts hx hm l0 l9
  have HI := hide hI
  have HL := hide hL
  have HCO := hide (fun W => cutOf_any x y m len W hx hm l0 l9)
  have HRE := hide (fun W => ruleError_any x y m W)
  rw [hr0] at HRE
  have hwl : withinB len 1 200 = true := withinB_yes (by omega)
  have HJE := hide (joinErr_def x y m len n L F)
  have HJN := hide (joinNum_def x y m len n L F)
  have HJF := hide (joinF_def x m len F)
  generalize joinErrI x y m len n L F = JE at *
  generalize joinNum x y m len n L F = JN at *
  generalize joinF x m len F = JF at *
  generalize cntN x m len = cnt at *
  generalize aheadN x m len = a at *
  obtain ⟨s, hs⟩ : ∃ s : Nat, s = cnt * a := ⟨_, rfl⟩
  rw [← hs] at c5 c6 HJE HJF HCO
  obtain ⟨f, hf⟩ : ∃ f : Nat, f = s - len := ⟨_, rfl⟩
  rw [← hf] at HJE HJF HCO
  have hsf : s = f + len := by omega
  have HS := hide hs
  clear hI hL hr0 hs hf
  go_enter Try.func22, Try.ntmps22
  go_wp2_with fail
  refine (HRE.out _).mono ?_
  rintro e w1 ⟨rfl, hb1⟩
  go_wp2_with fail
  refine (lengthError_any _ _).mono ?_
  rintro e w2 ⟨rfl, rfl⟩
  rw [hwl]
  go_wp2_with fail
  refine (firstError_laid [0, unI true 2] 2 _ _ rfl (by decide)).mono ?_
  rintro e w3 ⟨rfl, hw3⟩
  rw [show firstE [0, unI true 2] = (0 : Int) from rfl]
  have bx : Box w3 w.heap.size 25 #[.int .i64 (x : Int), .int .i64 (y : Int), .int .i64 (m : Int)] := by rw [← hw3]; exact ((Box.made rfl).below hb1).alloc _
  have hB3 : Below w.heap.size w w3 := by
    rw [← hw3]
    have h1 := below_of_alloc hb1
    exact h1.alloc h1.size _
  clear hw3 hb1
  obtain ⟨x0, x1, x2, hl3⟩ := rule_cells bx
  go_wp2_with fail
  refine (HCO.out _).mono ?_
  rintro e w4 ⟨rfl, hb4⟩
  have bx4 := bx.below hb4
  have hB4 := hB3.trans (hb4.mono hB3.size)
  clear x0 x1 x2 hl3 bx hb4 hB3
  by_cases hnc : n = cnt
  · subst hnc
    rw [if_pos rfl] at HJE HJN
    have tn : ((n : Int) != (n : Int)) = false := by simp
    go_wp2_with fail
    generalize hW5 : World.alloc w4 _ = w5
    have bc5 : Box w5 w4.heap.size 90 #[.int .i64 (n : Int), .int .i64 (a : Int), .int .i64 (f : Int)] := by rw [← hW5]; exact Box.made rfl
    have bx5 : Box w5 w.heap.size 25 #[.int .i64 (x : Int), .int .i64 (y : Int), .int .i64 (m : Int)] := by rw [← hW5]; exact bx4.alloc _
    have hB5 : Below w.heap.size w w5 := by rw [← hW5]; exact hB4.alloc hB4.size _
    have HI5 := hide (HI.out.below hB5)
    have HB5 := hide hB5
    clear hW5 bx4 hB4 hB5
    go_loopw [11, 34] (fun z i wr => ∃ k : Nat, k ≤ n ∧ i = .int .i64 k ∧ OwnInts wr w5.heap.size z (k * a) (allF a F) ∧ Hid (firstBad (fun i => segErrI x y a (L i) (F i)) k = 0) ∧ Below w5.heap.size w5 wr) (fun _ i _ => n - (intOf i).toNat)
    case atStart => exact ⟨0, Nat.zero_le _, rfl, by rw [Nat.zero_mul]; exact OwnInts.nil_ _ _ _, hide rfl, Below.refl _ _⟩
    case round =>
      obtain ⟨k, hk, rfl, hown, HZ, hB⟩ := hrel
      have hBs := hB.size
      have hBw := HB5.out.trans (hB.mono HB5.out.size)
      have bx := bx5.below hB
      have bc := bc5.below hB
      obtain ⟨x0, x1, x2, hlx⟩ := rule_cells bx
      obtain ⟨z0, z1, z2, hlz⟩ := cutb_cells bc
      by_cases hlt : k < n
      · have hltz : (k : Int) < (n : Int) := by omega
        obtain ⟨b, o, Ai, ci, rfl, -, hbk, hcell, hlc, hc9, hIk⟩ := (HI5.out.below hB) k hlt
        have HIk := hide hIk
        have HSE := hide (fun W hW => segmentError_any x y a (L k) ci Ai (F k) W h0 h1 t1 c3 (by omega) (HL.out k hlt) hlc hc9 hW)
        by_cases hg : segErrI x y a (L k) (F k) = 0
        · obtain ⟨hlen, -⟩ := segErr_zero hg
          have HG := hide hg
          rw [hg] at HSE
          obtain ⟨bi, oi, rfl, -, -, -⟩ := hIk 0 (by omega)
          have haL : a ≤ L k := by omega
          have hka : (a : Int) ≤ (ci : Int) := by omega
          have hka2 : a ≤ ci := by omega
          have hka9 : k * a ≤ s := by rw [HS.out]; exact Nat.mul_le_mul_right a hk
          clear hg hIk hlen
          go_wp2_with fail
          refine (HSE.out _ HIk.out).mono ?_
          rintro e w6 ⟨rfl, hb6⟩
          have hb6s := hb6.size
          have bc6 := bc.below hb6
          clear x0 x1 x2 hlx z0 z1 z2 hlz
          obtain ⟨z0, z1, z2, hlz⟩ := cutb_cells bc6
          obtain ⟨As, cs, rfl, hcs, hIs⟩ := hown.form
          go_wp2_with (at_builtin; refine wpList_append_ints _ rfl (.tmp 49) (.tmp 53) rfl w5.heap.size 0 (.slice As (k * a) cs) (k * a) _ rfl (hown.below hb6) (some ⟨bi, oi, none⟩) a ci (F k) rfl ((HIk.out.below hb6).fewer haL) (Nat.le_trans (Nat.add_le_add_right hka9 a) (by omega)) (by omega) ?_; intro v' w' h1 hb7)
          refine ⟨⟨k + 1, by omega, by simp, ?_, hide ?_, (hB.trans (hb6.mono hBs)).trans hb7⟩, by simp [intOf]; omega⟩
          · rw [Nat.add_mul, Nat.one_mul]
            exact h1.congr fun j hj => allF_snoc c3 hj
          · rw [firstBad_succ HZ.out]; exact HG.out
        · have HFB := hide (show firstBad (fun i => segErrI x y a (L i) (F i)) n = segErrI x y a (L k) (F k) from firstBad_at HZ.out hg n hlt)
          have HE := hide (show JE = segErrI x y a (L k) (F k) from by rw [HJE.out, HFB.out, if_neg hg])
          have HN := hide (show JN = k from by rw [HJN.out, HFB.out, if_neg hg]; exact firstIdx_at HZ.out hg n hlt)
          have t5 : (segErrI x y a (L k) (F k) != 0) = true := by simpa using hg
          have HG := hide hg
          clear hg HFB
          generalize segErrI x y a (L k) (F k) = ge at *
          go_wp2_with fail
          refine (HSE.out _ HIk.out).mono ?_
          rintro e w6 ⟨rfl, hb6⟩
          go_wp2_with fail
          go_ret3
          exact ⟨⟨_, by rw [HE.out, HN.out]; rfl, .inl ⟨by rw [HE.out]; exact HG.out, rfl⟩⟩, hBw.trans (hb6.mono hBw.size)⟩
      · obtain rfl : k = n := by omega
        rw [← HS.out] at hown
        obtain ⟨gz, capz, rfl, hgz, hgz2⟩ := hown.row (by omega)
        obtain ⟨hsc, hcap9⟩ := hown.cap_any
        obtain ⟨Az, cz, ez, -, hIz⟩ := hown.form
        injection ez with ez _ ez2; subst ez; subst ez2
        have HJE2 := hide (show JE = if hasB f (allF a F) 1 = true then 3 else 0 from by rw [HJE.out, HZ.out]; rfl)
        have HJN2 := hide (show JN = 0 from by rw [HJN.out, HZ.out]; rfl)
        have hfs : (f : Int) ≤ (s : Int) := by omega
        have hfc : (f : Int) ≤ (capz : Int) := by omega
        have hfc2 : f ≤ capz := by omega
        have hsub : s - f = len := by omega
        have HCT := hide (fun W hW => contains_any (some ⟨gz, 0, none⟩) f capz (allF a F) 1 W (by omega) hW)
        have HIz := hide (hIz.weak (Nat.zero_le _))
        clear hIz
        go_wp2_with fail
        refine (HCT.out _ (HIz.out.fewer (by omega))).mono ?_
        rintro e w6 ⟨rfl, rfl⟩
        cases hh : hasB f (allF a F) 1
        · have HE := hide (show JE = 0 from by rw [HJE2.out, hh]; rfl)
          go_wp2_with fail
          go_ret3
          refine ⟨⟨.slice (some ⟨gz, f, none⟩) len (capz - f), by rw [HE.out, HJN2.out]; rfl, .inr ⟨HE.out, _, _, rfl, ?_⟩⟩, hBw⟩
          rw [HJF.out]
          have h5 := IntsAt.cut (j := f) (m := len) HIz.out (by omega)
          rw [Nat.zero_add] at h5
          exact h5
        · have HE := hide (show JE = 3 from by rw [HJE2.out, hh]; rfl)
          go_wp2_with fail
          go_ret3
          exact ⟨⟨_, by rw [HE.out, HJN2.out]; rfl, .inl ⟨by rw [HE.out]; decide, rfl⟩⟩, hBw⟩
  · rw [if_neg hnc] at HJE HJN
    have tn : ((n : Int) != (cnt : Int)) = true := by simp; omega
    clear hnc
    go_wp2_with fail
    go_ret3
    exact ⟨⟨_, by rw [HJE.out, HJN.out]; rfl, .inl ⟨by rw [HJE.out]; decide, rfl⟩⟩, hB4.alloc hB4.size _⟩
end Go.Proofs.Ytcpcndacodcopaa
