/- Lemmas: E16, E17. -/
import Derived.Test.YtejhakkfgfahaaaBq09
set_option linter.unusedVariables false
set_option linter.unusedSimpArgs false
/- PanelErr, used, WantsErr and CheckSplit of the reference; CheckSplit of the code. -/
namespace Go.Proofs.Ytejhakkfgfahaaa
open Go.RowKit Go.Great
theorem firstE_cons' (e : Int) (r : List Int) : firstE (e :: r) = if e = 0 then firstE r else e := rfl
theorem paE_ref (P M : Int) : paE P M = if withinB P 0 1000000 = true ∧ withinB M 0 1000000 = true then 0 else 2 := by
  unfold paE inE
  cases withinB P 0 1000000 <;> cases withinB M 0 1000000 <;> rfl
set_option maxHeartbeats 4000000 in
set_option maxRecDepth 100000 in
theorem PanelErr_any (P M : Int) (w : World) :
    Calls Try.prog 69 #[.agg #[.int .i64 P, .int .i64 M]] w fun e w' => e = .returned (.int .i64 (paE P M)) ∧ Below w.heap.size w w' := by
  rw [paE_ref]
  have HW := hide (fun a b c W => within_any a b c W)
  have W0 := hide (fun W => HW.out P 0 1000000 W)
  have W1 := hide (fun W => HW.out M 0 1000000 W)
  obtain ⟨b0, h0⟩ : ∃ z, withinB P 0 1000000 = z := ⟨_, rfl⟩
  obtain ⟨b1, h1⟩ : ∃ z, withinB M 0 1000000 = z := ⟨_, rfl⟩
  simp only [h0, h1] at W0 W1 ⊢
  obtain ⟨r, hr⟩ : ∃ z : Int, (if b0 = true ∧ b1 = true then 0 else 2) = z := ⟨_, rfl⟩
  have HRR := hide hr
  rw [hr]
  clear h0 h1 hr HW
  go_enter Try.func69, Try.ntmps69
  go_upto_region 1 with fail
  obtain ⟨w_1, hw_1⟩ : ∃ q : World, q = (w.alloc (.cells #[.int .i64 P, .int .i64 M] 67)) := ⟨_, rfl⟩
  try rw [← hw_1]
  have HX0 := hide (show Box w_1 (w.heap.size) 67 #[.int .i64 P, .int .i64 M] by rw [hw_1]; exact Box.made rfl)
  have HB := hide (show Below w.heap.size w w_1 by rw [hw_1]; (repeat (first | (with_reducible exact Below.refl _ _) | (with_reducible refine Go.below_drewN ?_ _) | (with_reducible refine Below.drew ?_) | (with_reducible refine Below.alloc ?_ (by first | exact Nat.le_refl _ | (simp; done) | (simp; omega) | omega) _) | (with_reducible refine Below.setCell ?_ (by first | exact Nat.le_refl _ | (simp; done) | (simp; omega) | omega) _))))
  clear hw_1
  obtain ⟨x0, x1, -, -, hlx⟩ := HX0.out.c2
  go_wp2_with fail
  refine (W0.out _).mono ?_
  rintro e_ v_ ⟨rfl, rfl⟩
  cases b0
  case false =>
    obtain rfl : r = 2 := HRR.out.symm.trans (if_neg (by simp))
    go_wp2_with fail
    go_ret
    exact ⟨rfl, HB.out⟩
  go_wp2_with fail
  refine (W1.out _).mono ?_
  rintro e_ v_ ⟨rfl, rfl⟩
  cases b1
  case false =>
    obtain rfl : r = 2 := HRR.out.symm.trans (if_neg (by simp))
    go_wp2_with fail
    go_ret
    exact ⟨rfl, HB.out⟩
  obtain rfl : r = 0 := HRR.out.symm.trans (if_pos (by simp))
  go_wp2_with fail
  go_ret
  exact ⟨rfl, HB.out⟩
set_option maxHeartbeats 2000000 in
set_option maxRecDepth 100000 in
theorem used_any (L : Int) (A : Option Addr) (n c : Nat) (X : Nat → Int) (w : World) (hn : n ≤ 100) (hL : 0 ≤ L ∧ L ≤ 1000001) (hX : ∀ j, j < n → 0 ≤ X j ∧ X j ≤ 1000000) (hI : IntsAt w 0 A n X) :
    Calls Try.prog 70 #[.slice A n c, .int .i64 L] w fun e w' => e = .returned (.int .i64 (usN L X n)) ∧ w = w' := by
  have HI := hide hI
  have HX := hide hX
  have HU := hide (fun k (hk : k ≤ n) => usN_bounds (X := X) (M := 1000000) hL.1 k fun j hj => hX j (by omega))
  clear hI hX
  go_enter Try.func70, Try.ntmps70
  go_wp2_with fail
  go_loopw [5, 6] (fun s i wr => ∃ k : Nat, k ≤ n ∧ i = .int .i64 (k : Int) ∧ s = .int .i64 (usN L X k) ∧ w = wr) (fun _ i _ => n - (Go.RowKit.intOf i).toNat)
  case atStart => exact ⟨0, Nat.zero_le _, rfl, rfl, rfl⟩
  case round =>
    obtain ⟨k, hk, rfl, rfl, rfl⟩ := hrel
    by_cases hlt : k < n
    · have hltz : (k : Int) < (n : Int) := by omega
      obtain ⟨b, o, rfl, -, hb, hcell⟩ := HI.out k hlt
      have hx := HX.out k hlt
      have hu := HU.out k (by omega)
      have HS := hide (show usN L X (k + 1) = usN L X k + min (X k) L from rfl)
      obtain ⟨x, hxx⟩ : ∃ z, X k = z := ⟨_, rfl⟩
      obtain ⟨u, huu⟩ : ∃ z, usN L X k = z := ⟨_, rfl⟩
      rw [hxx] at hcell hx HS
      rw [huu] at hu HS
      simp only [huu]
      have hku : u ≤ 100000000 := by omega
      clear hxx huu
      obtain ⟨v, hv⟩ : ∃ v, usN L X (k + 1) = v := ⟨_, rfl⟩
      have q1 : IntKind.i64.wrap (u + min x L) = v := by rw [← hv, HS.out]; exact IntWalk.i64_in _ (by omega)
      have q2 : wrap64 (u + min x L) = v := by rw [← hv, HS.out]; unfold wrap64; omega
      have HV := hide hv
      clear hu hx hv
      go_wp2_with fail
      go_roundw
      case rel => exact ⟨k + 1, by omega, by go_num, by rw [HV.out], by first | rfl | trivial⟩
      case measure => simp [Go.RowKit.intOf]; omega
    · obtain rfl : k = n := by omega
      go_wp2_with fail
      go_ret
      exact ⟨rfl, rfl⟩
set_option maxHeartbeats 4000000 in
set_option maxRecDepth 100000 in
theorem WantsErr_any (P M : Int) (A : Option Addr) (n c : Nat) (X : Nat → Int) (w : World) (hn : n ≤ 9223372036854775807) (hI : IntsAt w 0 A n X) :
    Calls Try.prog 39 #[.agg #[.int .i64 P, .int .i64 M], .slice A n c] w fun e w' => e = .returned (.int .i64 (waE P M n X)) ∧ Below w.heap.size w w' := by
  have HPE := hide (fun W => PanelErr_any P M W)
  have HE := hide (show waE P M n X = if paE P M = 0 then (if unI (decide ((n : Int) ≤ 12)) 8 = 0 then (if badE (fun j => inE 0 1000000 (X j)) n = 0 then 0 else badE (fun j => inE 0 1000000 (X j)) n) else unI (decide ((n : Int) ≤ 12)) 8) else paE P M from rfl)
  obtain ⟨V, hV⟩ : ∃ z, waE P M n X = z := ⟨_, rfl⟩
  obtain ⟨p, hp⟩ : ∃ z, paE P M = z := ⟨_, rfl⟩
  simp only [hV, hp] at HE HPE ⊢
  have HI := hide hI
  clear hV hp hI
  go_enter Try.func39, Try.ntmps39
  go_upto_region 1 with fail
  obtain ⟨w_1, hw_1⟩ : ∃ q : World, q = (w.alloc (.cells #[.int .i64 P, .int .i64 M] 67)) := ⟨_, rfl⟩
  try rw [← hw_1]
  have HX0 := hide (show Box w_1 (w.heap.size) 67 #[.int .i64 P, .int .i64 M] by rw [hw_1]; exact Box.made rfl)
  have HB := hide (show Below w.heap.size w w_1 by rw [hw_1]; (repeat (first | (with_reducible exact Below.refl _ _) | (with_reducible refine Go.below_drewN ?_ _) | (with_reducible refine Below.drew ?_) | (with_reducible refine Below.alloc ?_ (by first | exact Nat.le_refl _ | (simp; done) | (simp; omega) | omega) _) | (with_reducible refine Below.setCell ?_ (by first | exact Nat.le_refl _ | (simp; done) | (simp; omega) | omega) _))))
  clear hw_1
  obtain ⟨x0, x1, -, -, hlx⟩ := HX0.out.c2
  go_wp2_with fail
  refine (HPE.out _).mono ?_
  rintro e_ w_2 ⟨rfl, hb_2⟩
  replace HX0 := hide (HX0.out.below hb_2)
  replace HB := hide (HB.out.trans (hb_2.mono HB.out.size))
  clear hb_2
  clear x0 x1 hlx HPE
  by_cases hp : p = 0
  case neg =>
    have tp : (p != 0) = true := by simpa using hp
    obtain rfl : V = p := HE.out.trans (if_neg hp)
    clear hp HE
    go_wp2_with fail
    go_ret
    exact ⟨rfl, HB.out⟩
  subst hp
  by_cases h12 : n ≤ 12
  case neg =>
    have hz : (12 : Int) < (n : Int) := by omega
    obtain rfl : V = 8 := HE.out.trans (by rw [if_pos rfl, show decide ((n : Int) ≤ 12) = false by simp; omega]; rfl)
    clear HE
    go_wp2_with fail
    go_ret
    exact ⟨rfl, HB.out⟩
  have hz : ¬ (12 : Int) < (n : Int) := by omega
  have HEE := hide (show V = badE (fun j => inE 0 1000000 (X j)) n by
    rw [HE.out, if_pos rfl, show decide ((n : Int) ≤ 12) = true by simp; omega, if_pos (show unI true 8 = 0 from rfl)]
    split
    · rename_i h; rw [h]
    · rfl)
  clear HE
  go_wp2_with fail
  go_loopw [6] (fun i wr => ∃ k : Nat, k ≤ n ∧ i = .int .i64 (k : Int) ∧ Hid (badE (fun j => inE 0 1000000 (X j)) k = 0) ∧ wr = w_2) (fun i _ => n - (Go.RowKit.intOf i).toNat)
  case atStart => exact ⟨0, Nat.zero_le _, rfl, hide rfl, rfl⟩
  case round =>
    obtain ⟨k, hk, rfl, HK, rfl⟩ := hrel
    by_cases hlt : k < n
    · have hltz : (k : Int) < (n : Int) := by omega
      obtain ⟨b, o, rfl, -, hb, hcell⟩ := (HI.out.below HB.out) k hlt
      have HW := hide (fun W => within_any (X k) 0 1000000 W)
      obtain ⟨bb, hbb⟩ : ∃ z, withinB (X k) 0 1000000 = z := ⟨_, rfl⟩
      simp only [hbb] at HW
      have HBB := hide hbb
      clear hbb
      go_wp2_with fail
      refine (HW.out _).mono ?_
      rintro e_ v_ ⟨rfl, rfl⟩
      cases bb
      · obtain rfl : V = 2 := by
          rw [HEE.out, badE_at HK.out (by show inE 0 1000000 (X k) ≠ 0; unfold inE; rw [HBB.out]; decide) n hlt]
          show inE 0 1000000 (X k) = 2
          unfold inE
          rw [HBB.out]
          rfl
        go_wp2_with fail
        go_ret
        exact ⟨rfl, HB.out⟩
      · go_wp2_with fail
        go_roundw
        case rel => exact ⟨k + 1, by omega, by go_num, hide ((badE_succ HK.out).trans (by show inE 0 1000000 (X k) = 0; unfold inE; rw [HBB.out]; rfl)), by first | rfl | trivial⟩
        case measure => simp [Go.RowKit.intOf]; omega
    · obtain rfl : k = n := by omega
      obtain rfl : V = 0 := HEE.out.trans HK.out
      go_wp2_with fail
      go_ret
      exact ⟨rfl, HB.out⟩
/-- The errors of CheckSplit, and what a split uses. -/
def csE (P M : Int) (n : Nat) (X : Nat → Int) : Int := firstE [paE P M, unI (decide ((n : Int) ≤ 12)) 8, badE (fun j => inE 0 M (X j)) n]
def csC (P M : Int) (n : Nat) (X : Nat → Int) : Int := if csE P M n X = 0 then (if P < usN M X n then 24 else 0) else csE P M n X
def csV (P M : Int) (n : Nat) (X : Nat → Int) : Int := if csC P M n X = 0 then usN M X n else 0
theorem csE_zero {P M : Int} {n : Nat} {X : Nat → Int} (h : csE P M n X = 0) : ((0 ≤ P ∧ P ≤ 1000000) ∧ 0 ≤ M ∧ M ≤ 1000000) ∧ n ≤ 12 ∧ ∀ j, j < n → 0 ≤ X j ∧ X j ≤ M := by
  obtain ⟨h1, h2⟩ := firstE_none2 h
  obtain ⟨h3, h4⟩ := firstE_none2 h2
  obtain ⟨h5, -⟩ := firstE_none2 h4
  have h3 := unI_none (by decide) h3
  simp at h3
  exact ⟨paE_zero h1, by omega, fun j hj => withinB_iff.1 (unI_none (by decide) (badE_none h5 j hj))⟩
set_option maxHeartbeats 4000000 in
set_option maxRecDepth 100000 in
theorem CheckSplit_any (P M : Int) (A : Option Addr) (n c : Nat) (X : Nat → Int) (w : World) (hn : n ≤ 100) (hI : IntsAt w 0 A n X) :
    Calls Try.prog 35 #[.agg #[.int .i64 P, .int .i64 M], .slice A n c] w fun e w' => e = .returned (.tuple #[.int .i64 (csV P M n X), .int .i64 (csC P M n X)]) ∧ Below w.heap.size w w' := by
  have HE := hide (show firstE [paE P M, unI (decide ((n : Int) ≤ 12)) 8, badE (fun j => inE 0 M (X j)) n] = csE P M n X from rfl)
  have HZ := hide (csE_zero (P := P) (M := M) (n := n) (X := X))
  have HC := hide (show csC P M n X = if csE P M n X = 0 then (if P < usN M X n then 24 else 0) else csE P M n X from rfl)
  have HV := hide (show csV P M n X = if csC P M n X = 0 then usN M X n else 0 from rfl)
  have HIT := hide (fun b1 b2 W (h : IntsAt W 0 A n X) h1 h2 => itemsError_within 0 M A n c b1 b2 X W (by omega) h h1 h2)
  have HPE := hide (fun W => panelError_any P M W)
  have HI := hide hI
  generalize csV P M n X = R at *
  generalize csC P M n X = C at *
  generalize csE P M n X = V at *
  obtain ⟨r, hr⟩ : ∃ z, paE P M = z := ⟨_, rfl⟩
  obtain ⟨s, hs⟩ : ∃ z, badE (fun j => inE 0 M (X j)) n = z := ⟨_, rfl⟩
  simp only [hr, hs] at HE HIT HPE
  clear hI hr hs
  go_enter Try.func35, Try.ntmps35
  go_upto_region 1 with fail
  obtain ⟨w_1, hw_1⟩ : ∃ q : World, q = (w.alloc (.cells #[.int .i64 P, .int .i64 M] 67)) := ⟨_, rfl⟩
  try rw [← hw_1]
  have HX0 := hide (show Box w_1 (w.heap.size) 67 #[.int .i64 P, .int .i64 M] by rw [hw_1]; exact Box.made rfl)
  have HB := hide (show Below w.heap.size w w_1 by rw [hw_1]; (repeat (first | (with_reducible exact Below.refl _ _) | (with_reducible refine Go.below_drewN ?_ _) | (with_reducible refine Below.drew ?_) | (with_reducible refine Below.alloc ?_ (by first | exact Nat.le_refl _ | (simp; done) | (simp; omega) | omega) _) | (with_reducible refine Below.setCell ?_ (by first | exact Nat.le_refl _ | (simp; done) | (simp; omega) | omega) _))))
  clear hw_1
  refine wp_region_held_drew (S := fun w' => w'.cell? ⟨w.heap.size, 0, none⟩ = some (.int .i64 P) ∧ w'.cell? ⟨w.heap.size, 1, none⟩ = some (.int .i64 M)) (by kernel_rfl) ⟨HX0.out.c2.1, HX0.out.c2.2.1⟩ (fun hHeld => ?_)
  obtain ⟨w_2, hw_2⟩ : ∃ q : World, q = w_1.drew := ⟨_, rfl⟩
  rw [← hw_2] at hHeld ⊢
  have hc_2 : Below w_1.heap.size w_1 w_2 := by rw [hw_2]; exact (Below.refl _ _).drew
  clear hw_2
  replace HX0 := hide (HX0.out.below hc_2)
  replace HB := hide (HB.out.trans (hc_2.mono HB.out.size))
  clear hc_2
  refine wpAnyH_take (i := 0) (oi := ⟨some 8, _, _, _, _, _⟩) (v := ?_) rfl (by kernel_rfl) (by kernel_rfl) (by kernel_rfl) (fun _ _ _ h => h) (Or.inl ⟨by rfl, ?_⟩) (by assumption) ?_
  rotate_left
  · (intro w' hSw; (try dsimp only at hSw); go_simp <;> (with_reducible rfl))
  try simp only [Act.put, List.setIfInBounds_toArray, List.set_cons_zero, List.set_cons_succ]
  refine wpAnyH_take (i := 2) (oi := ⟨some 10, _, _, _, _, _⟩) (v := ?_) rfl (by kernel_rfl) (by kernel_rfl) (by kernel_rfl) (fun _ _ _ h => h) (Or.inl ⟨by rfl, ?_⟩) (by assumption) ?_
  rotate_left
  · (intro w' hSw; (try dsimp only at hSw); go_simp <;> (with_reducible rfl))
  try simp only [Act.put, List.setIfInBounds_toArray, List.set_cons_zero, List.set_cons_succ]
  refine wpAnyH_take (i := 3) (oi := ⟨some 11, _, _, _, _, _⟩) (v := ?_) rfl (by kernel_rfl) (by kernel_rfl) (by kernel_rfl) (fun _ _ _ h => h) (Or.inl ⟨by rfl, ?_⟩) (by assumption) ?_
  rotate_left
  · (intro w' hSw; (try dsimp only at hSw); go_simp <;> (with_reducible rfl))
  try simp only [Act.put, List.setIfInBounds_toArray, List.set_cons_zero, List.set_cons_succ]
  refine wpAnyH_take (i := 4) (oi := ⟨some 12, _, _, _, _, _⟩) (v := ?_) rfl (by kernel_rfl) (by kernel_rfl) (by kernel_rfl) (fun _ _ _ h => h) (Or.inl ⟨by rfl, ?_⟩) (by assumption) ?_
  rotate_left
  · (intro w' hSw; (try dsimp only at hSw); go_simp <;> (with_reducible rfl))
  try simp only [Act.put, List.setIfInBounds_toArray, List.set_cons_zero, List.set_cons_succ]
  refine wpAnyH_take (i := 6) (oi := ⟨some 14, _, _, _, _, _⟩) (v := ?_) rfl (by kernel_rfl) (by kernel_rfl) (by kernel_rfl) (fun _ _ _ h => h) (Or.inl ⟨by rfl, ?_⟩) (by assumption) ?_
  rotate_left
  · (intro w' hSw; (try dsimp only at hSw); go_simp <;> (with_reducible rfl))
  try simp only [Act.put, List.setIfInBounds_toArray, List.set_cons_zero, List.set_cons_succ]
  refine wpAnyH_take (i := 7) (oi := ⟨some 15, _, _, _, _, _⟩) (v := ?_) rfl (by kernel_rfl) (by kernel_rfl) (by kernel_rfl) (fun _ _ _ h => h) (Or.inl ⟨by rfl, ?_⟩) (by assumption) ?_
  rotate_left
  · (intro w' hSw; (try dsimp only at hSw); go_simp <;> (with_reducible rfl))
  try simp only [Act.put, List.setIfInBounds_toArray, List.set_cons_zero, List.set_cons_succ]
  refine wpAnyH_take (i := 8) (oi := ⟨some 16, _, _, _, _, _⟩) (v := ?_) rfl (by kernel_rfl) (by kernel_rfl) (by kernel_rfl) (fun _ _ _ h => h) (Or.inl ⟨by rfl, ?_⟩) (by assumption) ?_
  rotate_left
  · (intro w' hSw; (try dsimp only at hSw); go_simp <;> (with_reducible rfl))
  try simp only [Act.put, List.setIfInBounds_toArray, List.set_cons_zero, List.set_cons_succ]
  refine wpAnyH_ready (rs := [1]) (by kernel_rfl) (by simp) ?_
  refine AllReadyH.cons (o := ⟨some 9, _, _, _, _, _⟩) rfl (fun K' hK => ?_) AllReadyH.nil
  go_simp
  go_at_call 66
  refine (HPE.out _).mono ?_
  rintro e_ w_3 ⟨rfl, hb_3⟩
  replace HX0 := hide (HX0.out.below hb_3)
  replace HB := hide (HB.out.trans (hb_3.mono HB.out.size))
  clear hb_3
  go_wp2_with fail
  refine hK.out _ _ ⟨HX0.out.c2.1, HX0.out.c2.2.1⟩ (fun hHeld => ?_)
  clear hK K'
  try simp only [Act.put, List.setIfInBounds_toArray, List.set_cons_zero, List.set_cons_succ]
  refine wpAnyH_ready (rs := [5]) (by kernel_rfl) (by simp) ?_
  refine AllReadyH.cons (o := ⟨some 13, _, _, _, _, _⟩) rfl (fun K' hK => ?_) AllReadyH.nil
  go_simp
  go_at_call 45
  refine (unless_any _ _ _).mono ?_
  rintro e_ v_ ⟨rfl, rfl⟩
  go_wp2_with fail
  refine hK.out _ _ ⟨HX0.out.c2.1, HX0.out.c2.2.1⟩ (fun hHeld => ?_)
  clear hK K'
  try simp only [Act.put, List.setIfInBounds_toArray, List.set_cons_zero, List.set_cons_succ]
  refine wpAnyH_ready (rs := [9]) (by kernel_rfl) (by simp) ?_
  refine AllReadyH.cons (o := ⟨some 17, _, _, _, _, _⟩) rfl (fun K' hK => ?_) AllReadyH.nil
  go_simp
  go_at_call 47
  refine (within_clo _ _ _).mono ?_
  rintro e_ w_4 ⟨rfl, c1, c2, hb_4⟩
  replace HX0 := hide (HX0.out.below hb_4)
  replace HB := hide (HB.out.trans (hb_4.mono HB.out.size))
  clear hb_4
  go_wp2_with fail
  refine hK.out _ _ ⟨HX0.out.c2.1, HX0.out.c2.2.1⟩ (fun hHeld => ?_)
  clear hK K'
  try simp only [Act.put, List.setIfInBounds_toArray, List.set_cons_zero, List.set_cons_succ]
  refine wpAnyH_ready (rs := [10]) (by kernel_rfl) (by simp) ?_
  refine AllReadyH.cons (o := ⟨some 18, _, _, _, _, _⟩) rfl (fun K' hK => ?_) AllReadyH.nil
  go_simp
  go_at_call 59
  refine (HIT.out _ _ _ (HI.out.below HB.out) c1 c2).mono ?_
  rintro e_ w_5 ⟨rfl, hb_5⟩
  replace HX0 := hide (HX0.out.below hb_5)
  replace HB := hide (HB.out.trans (hb_5.mono HB.out.size))
  clear hb_5
  go_wp2_with fail
  clear c1 c2
  refine hK.out _ _ ⟨HX0.out.c2.1, HX0.out.c2.2.1⟩ (fun hHeld => ?_)
  clear hK K'
  try simp only [Act.put, List.setIfInBounds_toArray, List.set_cons_zero, List.set_cons_succ]
  refine wpAnyH_ready (rs := [11]) (by kernel_rfl) (by simp) ?_
  refine AllReadyH.cons (o := ⟨some 19, _, _, _, _, _⟩) rfl (fun K' hK => ?_) AllReadyH.nil
  go_simp
  obtain ⟨g2, hg2⟩ : ∃ q, w_5.heap.size = q := ⟨_, rfl⟩
  obtain ⟨w_6, hw_6⟩ : ∃ q : World, q = w_5.alloc (.cells #[.int .i64 r, .int .i64 (unI (decide ((n : Int) ≤ 12)) 8), .int .i64 s] 27) := ⟨_, rfl⟩
  try rw [← hw_6]
  have HE2 := hide (show Box w_6 g2 27 #[.int .i64 r, .int .i64 (unI (decide ((n : Int) ≤ 12)) 8), .int .i64 s] by rw [hw_6]; exact Box.made hg2.symm)
  have hc_6 : Below w_5.heap.size w_5 w_6 := by rw [hw_6]; exact (Below.refl _ _).alloc (Nat.le_refl _) _
  clear hw_6
  replace HX0 := hide (HX0.out.below hc_6)
  replace HB := hide (HB.out.trans (hc_6.mono HB.out.size))
  clear hc_6
  try simp only [hg2]
  clear hg2
  refine hK.out _ _ ⟨HX0.out.c2.1, HX0.out.c2.2.1⟩ (fun hHeld => ?_)
  clear hK K'
  try simp only [Act.put, List.setIfInBounds_toArray, List.set_cons_zero, List.set_cons_succ]
  refine wpAnyH_ready (rs := [12]) (by kernel_rfl) (by simp) ?_
  refine AllReadyH.cons (o := ⟨some 20, _, _, _, _, _⟩) rfl (fun K' hK => ?_) AllReadyH.nil
  go_simp
  go_at_call 44
  refine (firstError_box g2 3 [r, unI (decide ((n : Int) ≤ 12)) 8, s] _ _ rfl (by decide) HE2.out).mono ?_
  rintro e_ v_ ⟨rfl, rfl⟩
  go_wp2_with fail
  refine hK.out _ _ ⟨HX0.out.c2.1, HX0.out.c2.2.1⟩ (fun hHeld => ?_)
  clear hK K'
  try simp only [Act.put, List.setIfInBounds_toArray, List.set_cons_zero, List.set_cons_succ]
  refine wpAnyH_take (i := 13) (oi := ⟨some 6, _, _, _, _, _⟩) (v := ?_) rfl (by kernel_rfl) (by kernel_rfl) (by kernel_rfl) (fun _ _ _ h => h) (Or.inl ⟨by rfl, ?_⟩) (by assumption) ?_
  rotate_left
  · (intro w' hSw; (try dsimp only at hSw); go_simp <;> (with_reducible rfl))
  try simp only [Act.put, List.setIfInBounds_toArray, List.set_cons_zero, List.set_cons_succ]
  refine wpAnyH_done (by kernel_rfl) ?_ _
  rw [HE.out]
  clear HE HIT HPE
  by_cases hv : V = 0
  case neg =>
    have tv : (V != 0) = true := by simpa using hv
    obtain rfl : C = V := HC.out.trans (if_neg hv)
    obtain rfl : R = 0 := HV.out.trans (if_neg hv)
    clear hv HZ
    go_wp2_with fail
    go_ret2
    exact ⟨rfl, HB.out⟩
  have tv : (V != 0) = false := by simpa using hv
  obtain ⟨⟨hP, hM⟩, hn12, hX⟩ := HZ.out hv
  have HCC := hide (HC.out.trans (if_pos hv))
  subst hv
  clear HC HZ
  have HU := hide (fun W (h : IntsAt W 0 A n X) => usedAt_any M A n c X W hn (by omega) (fun j hj => (by have := hX j hj; omega)) h)
  obtain ⟨u, hu⟩ : ∃ z, usN M X n = z := ⟨_, rfl⟩
  simp only [hu] at HU HCC HV
  clear hu hX
  obtain ⟨x0, x1, -, -, hlx⟩ := HX0.out.c2
  go_wp2_with fail
  refine (HU.out _ (HI.out.below HB.out)).mono ?_
  rintro e_ v_ ⟨rfl, rfl⟩
  by_cases hpu : P < u
  case pos =>
    obtain rfl : C = 24 := HCC.out.trans (if_pos hpu)
    obtain rfl : R = 0 := HV.out.trans (if_neg (by decide))
    go_wp2_with fail
    go_ret2
    exact ⟨rfl, HB.out⟩
  obtain rfl : C = 0 := HCC.out.trans (if_neg hpu)
  obtain rfl : R = u := HV.out.trans (if_pos rfl)
  go_wp2_with fail
  go_ret2
  exact ⟨rfl, HB.out⟩
end Go.Proofs.Ytejhakkfgfahaaa
/- CheckSplit and SplitOf of the reference. -/
namespace Go.Proofs.Ytejhakkfgfahaaa
open Go.RowKit Go.Great
theorem IntsAt.cell {w : World} {lo b o n k : Nat} {F : Nat → Int} (h : IntsAt w lo (some ⟨b, o, none⟩) n F) (hk : k < n) : w.cell? ⟨b, o + k, none⟩ = some (.int .i64 (F k)) := by
  obtain ⟨b', o', e, -, -, hc⟩ := h k hk
  injection e with e; injection e with e1 e2; subst e1; subst e2
  exact hc
set_option maxHeartbeats 4000000 in
set_option maxRecDepth 100000 in
theorem CheckSplit_ref (P M : Int) (A : Option Addr) (n c : Nat) (X : Nat → Int) (w : World) (hn : n ≤ 100) (hI : IntsAt w 0 A n X) :
    Calls Try.prog 38 #[.agg #[.int .i64 P, .int .i64 M], .slice A n c] w fun e w' => e = .returned (.tuple #[.int .i64 (csV P M n X), .int .i64 (csC P M n X)]) ∧ Below w.heap.size w w' := by
  have HPE := hide (fun W => PanelErr_any P M W)
  have HPZ := hide (paE_zero (P := P) (M := M))
  have HE := hide (show csE P M n X = if paE P M = 0 then (if unI (decide ((n : Int) ≤ 12)) 8 = 0 then (if badE (fun j => inE 0 M (X j)) n = 0 then 0 else badE (fun j => inE 0 M (X j)) n) else unI (decide ((n : Int) ≤ 12)) 8) else paE P M from rfl)
  have HC := hide (show csC P M n X = if csE P M n X = 0 then (if P < usN M X n then 24 else 0) else csE P M n X from rfl)
  have HV := hide (show csV P M n X = if csC P M n X = 0 then usN M X n else 0 from rfl)
  generalize csV P M n X = R at *
  generalize csC P M n X = C at *
  generalize csE P M n X = V at *
  obtain ⟨p, hp⟩ : ∃ z, paE P M = z := ⟨_, rfl⟩
  simp only [hp] at HE HPE HPZ
  have HI := hide hI
  clear hp hI
  go_enter Try.func38, Try.ntmps38
  go_upto_region 1 with fail
  obtain ⟨w_1, hw_1⟩ : ∃ q : World, q = (w.alloc (.cells #[.int .i64 P, .int .i64 M] 67)) := ⟨_, rfl⟩
  try rw [← hw_1]
  have HX0 := hide (show Box w_1 (w.heap.size) 67 #[.int .i64 P, .int .i64 M] by rw [hw_1]; exact Box.made rfl)
  have HB := hide (show Below w.heap.size w w_1 by rw [hw_1]; (repeat (first | (with_reducible exact Below.refl _ _) | (with_reducible refine Go.below_drewN ?_ _) | (with_reducible refine Below.drew ?_) | (with_reducible refine Below.alloc ?_ (by first | exact Nat.le_refl _ | (simp; done) | (simp; omega) | omega) _) | (with_reducible refine Below.setCell ?_ (by first | exact Nat.le_refl _ | (simp; done) | (simp; omega) | omega) _))))
  clear hw_1
  obtain ⟨x0, x1, -, -, hlx⟩ := HX0.out.c2
  go_wp2_with fail
  refine (HPE.out _).mono ?_
  rintro e_ w_2 ⟨rfl, hb_2⟩
  replace HX0 := hide (HX0.out.below hb_2)
  replace HB := hide (HB.out.trans (hb_2.mono HB.out.size))
  clear hb_2
  clear x0 x1 hlx HPE
  by_cases hp : p = 0
  case neg =>
    have tp : (p != 0) = true := by simpa using hp
    obtain rfl : V = p := HE.out.trans (if_neg hp)
    obtain rfl : C = V := HC.out.trans (if_neg hp)
    obtain rfl : R = 0 := HV.out.trans (if_neg hp)
    clear hp HE HC HV
    go_wp2_with fail
    go_ret2
    exact ⟨rfl, HB.out⟩
  subst hp
  obtain ⟨hP, hM⟩ := HPZ.out (by first | rfl | trivial)
  by_cases h12 : n ≤ 12
  case neg =>
    have hz : (12 : Int) < (n : Int) := by omega
    obtain rfl : V = 8 := HE.out.trans (by rw [if_pos rfl, show decide ((n : Int) ≤ 12) = false by simp; omega]; rfl)
    obtain rfl : C = 8 := HC.out.trans (if_neg (by decide))
    obtain rfl : R = 0 := HV.out.trans (if_neg (by decide))
    clear HE HC HV
    go_wp2_with fail
    go_ret2
    exact ⟨rfl, HB.out⟩
  have hz : ¬ (12 : Int) < (n : Int) := by omega
  have HEE := hide (show V = badE (fun j => inE 0 M (X j)) n by
    rw [HE.out, if_pos rfl, show decide ((n : Int) ≤ 12) = true by simp; omega, if_pos (show unI true 8 = 0 from rfl)]
    split
    · rename_i h; rw [h]
    · rfl)
  clear HE HPZ
  go_wp2_with fail
  go_loopw [7, 8] (fun s i wr => ∃ k : Nat, k ≤ n ∧ i = .int .i64 (k : Int) ∧ s = .int .i64 (usN M X k) ∧ Hid (badE (fun j => inE 0 M (X j)) k = 0) ∧ Hid (0 ≤ usN M X k ∧ usN M X k ≤ k * 1000000) ∧ Hid (Box wr w.heap.size 67 #[.int .i64 P, .int .i64 M]) ∧ Hid (Below w.heap.size w wr)) (fun _ i _ => n - (Go.RowKit.intOf i).toNat)
  case atStart => exact ⟨0, Nat.zero_le _, rfl, rfl, hide rfl, hide ⟨Int.le_refl _, by show (0 : Int) ≤ ((0 : Nat) : Int) * 1000000; decide⟩, HX0, HB⟩
  case round =>
    clear HX0 HB
    obtain ⟨k, hk, rfl, rfl, HK, HUB, HX0, HB⟩ := hrel
    obtain ⟨wA, rfl⟩ : ∃ x : World, x = wr := ⟨_, rfl⟩
    by_cases hlt : k < n
    case pos =>
      have hltz : (k : Int) < (n : Int) := by omega
      obtain ⟨b, o, rfl, -, hb, -⟩ := (HI.out.below HB.out) k hlt
      have HW := hide (fun W => within_any (X k) 0 M W)
      obtain ⟨bb, hbb⟩ : ∃ z, withinB (X k) 0 M = z := ⟨_, rfl⟩
      simp only [hbb] at HW
      have HBB := hide hbb
      clear hbb
      have HS := hide (show usN M X (k + 1) = usN M X k + min (X k) M from rfl)
      have HXK := hide (fun W (h : IntsAt W 0 (some ⟨b, o, none⟩) n X) => h.cell hlt)
      obtain ⟨x, hx⟩ : ∃ z, X k = z := ⟨_, rfl⟩
      simp only [hx] at HXK HW
      obtain ⟨u, hu⟩ : ∃ z, usN M X k = z := ⟨_, rfl⟩
      rw [hu] at HUB
      rw [hu, hx] at HS
      simp only [hu]
      have HXX := hide hx
      clear hx hu
      go_upto_region 10 with fail
      refine wp_region_held_drew (S := fun w' => w'.cell? ⟨w.heap.size, 1, none⟩ = some (.int .i64 M) ∧ w'.cell? ⟨b, o + k, none⟩ = some (.int .i64 x)) (by kernel_rfl) ⟨HX0.out.c2.2.1, HXK.out _ (HI.out.below HB.out.drew)⟩ (fun hHeld => ?_)
      obtain ⟨w_3, hw_3⟩ : ∃ q : World, q = wA.drew := ⟨_, rfl⟩
      rw [← hw_3] at hHeld ⊢
      have hc_3 : Below wA.heap.size wA w_3 := by rw [hw_3]; exact (Below.refl _ _).drew
      clear hw_3
      replace HX0 := hide (HX0.out.below hc_3)
      replace HB := hide (HB.out.trans (hc_3.mono HB.out.size))
      clear hc_3
      refine wpAnyH_take (i := 0) (oi := ⟨some 23, _, _, _, _, _⟩) (v := ?_) rfl (by kernel_rfl) (by kernel_rfl) (by kernel_rfl) (fun _ _ _ h => h) (Or.inl ⟨by rfl, ?_⟩) (by assumption) ?_
      rotate_left
      · (intro w' hSw; (try dsimp only at hSw); go_simp <;> (with_reducible rfl))
      try simp only [Act.put, List.setIfInBounds_toArray, List.set_cons_zero, List.set_cons_succ]
      refine wpAnyH_take (i := 1) (oi := ⟨some 24, _, _, _, _, _⟩) (v := ?_) rfl (by kernel_rfl) (by kernel_rfl) (by kernel_rfl) (fun _ _ _ h => h) (Or.inl ⟨by rfl, ?_⟩) (by assumption) ?_
      rotate_left
      · (intro w' hSw; (try dsimp only at hSw); go_simp <;> (with_reducible rfl))
      try simp only [Act.put, List.setIfInBounds_toArray, List.set_cons_zero, List.set_cons_succ]
      refine wpAnyH_take (i := 2) (oi := ⟨some 25, _, _, _, _, _⟩) (v := ?_) rfl (by kernel_rfl) (by kernel_rfl) (by kernel_rfl) (fun _ _ _ h => h) (Or.inl ⟨by rfl, ?_⟩) (by assumption) ?_
      rotate_left
      · (intro w' hSw; (try dsimp only at hSw); go_simp <;> (with_reducible rfl))
      try simp only [Act.put, List.setIfInBounds_toArray, List.set_cons_zero, List.set_cons_succ]
      refine wpAnyH_take (i := 3) (oi := ⟨some 26, _, _, _, _, _⟩) (v := ?_) rfl (by kernel_rfl) (by kernel_rfl) (by kernel_rfl) (fun _ _ _ h => h) (Or.inl ⟨by rfl, ?_⟩) (by assumption) ?_
      rotate_left
      · (intro w' hSw; (try dsimp only at hSw); go_simp <;> (with_reducible rfl))
      try simp only [Act.put, List.setIfInBounds_toArray, List.set_cons_zero, List.set_cons_succ]
      refine wpAnyH_take (i := 4) (oi := ⟨some 27, _, _, _, _, _⟩) (v := ?_) rfl (by kernel_rfl) (by kernel_rfl) (by kernel_rfl) (fun _ _ _ h => h) (Or.inl ⟨by rfl, ?_⟩) (by assumption) ?_
      rotate_left
      · (intro w' hSw; (try dsimp only at hSw); go_simp <;> (with_reducible rfl))
      try simp only [Act.put, List.setIfInBounds_toArray, List.set_cons_zero, List.set_cons_succ]
      refine wpAnyH_take (i := 5) (oi := ⟨some 28, _, _, _, _, _⟩) (v := ?_) rfl (by kernel_rfl) (by kernel_rfl) (by kernel_rfl) (fun _ _ _ h => h) (Or.inl ⟨by rfl, ?_⟩) (by assumption) ?_
      rotate_left
      · (intro w' hSw; (try dsimp only at hSw); go_simp <;> (with_reducible rfl))
      try simp only [Act.put, List.setIfInBounds_toArray, List.set_cons_zero, List.set_cons_succ]
      refine wpAnyH_ready (rs := [6]) (by kernel_rfl) (by simp) ?_
      refine AllReadyH.cons (o := ⟨some 29, _, _, _, _, _⟩) rfl (fun K' hK => ?_) AllReadyH.nil
      go_simp
      go_at_call 17
      refine (HW.out _).mono ?_
      rintro e_ v_ ⟨rfl, rfl⟩
      go_wp2_with fail
      refine hK.out _ _ ⟨HX0.out.c2.2.1, HXK.out _ (HI.out.below HB.out)⟩ (fun hHeld => ?_)
      clear hK K'
      try simp only [Act.put, List.setIfInBounds_toArray, List.set_cons_zero, List.set_cons_succ]
      refine wpAnyH_take (i := 7) (oi := ⟨some 30, _, _, _, _, _⟩) (v := ?_) rfl (by kernel_rfl) (by kernel_rfl) (by kernel_rfl) (fun _ _ _ h => h) (Or.inl ⟨by rfl, ?_⟩) (by assumption) ?_
      rotate_left
      · (intro w' hSw; (try dsimp only at hSw); go_simp <;> (with_reducible rfl))
      try simp only [Act.put, List.setIfInBounds_toArray, List.set_cons_zero, List.set_cons_succ]
      refine wpAnyH_done (by kernel_rfl) ?_ _
      cases bb
      case false =>
        obtain rfl : V = 2 := by
          rw [HEE.out, badE_at HK.out (by show inE 0 M (X k) ≠ 0; unfold inE; rw [HBB.out]; decide) n hlt]
          show inE 0 M (X k) = 2
          unfold inE
          rw [HBB.out]
          rfl
        obtain rfl : C = 2 := HC.out.trans (if_neg (by decide))
        obtain rfl : R = 0 := HV.out.trans (if_neg (by decide))
        clear HC HV HEE HK
        go_wp2_with fail
        go_ret2
        exact ⟨rfl, HB.out⟩
      have hx0 : 0 ≤ x ∧ x ≤ M := by have := withinB_iff.1 HBB.out; rw [HXX.out] at this; exact this
      have hub := HUB.out
      have hc := HXK.out _ (HI.out.below HB.out)
      obtain ⟨v, hv⟩ : ∃ z, usN M X (k + 1) = z := ⟨_, rfl⟩
      have q1 : IntKind.i64.wrap (u + x) = v := by rw [← hv, HS.out]; rw [show u + min x M = u + x by omega]; exact IntWalk.i64_in _ (by omega)
      have q2 : wrap64 (u + x) = v := by rw [← hv, HS.out, show u + min x M = u + x by omega]; unfold wrap64; omega
      have HVV := hide hv
      have HVB := hide (show 0 ≤ v ∧ v ≤ ((k + 1 : Nat) : Int) * 1000000 by rw [← hv, HS.out]; omega)
      clear hub hx0 hv
      go_wp2_with fail
      go_roundw
      case rel => exact ⟨k + 1, by omega, by go_num, by rw [HVV.out], hide ((badE_succ HK.out).trans (by show inE 0 M (X k) = 0; unfold inE; rw [HBB.out]; rfl)), hide (by rw [HVV.out]; exact HVB.out), HX0, HB⟩
      case measure => simp [Go.RowKit.intOf]; omega
    obtain rfl : k = n := by omega
    obtain rfl : V = 0 := HEE.out.trans HK.out
    have HCC := hide (HC.out.trans (if_pos rfl))
    obtain ⟨x0, x1, -, -, hlx⟩ := HX0.out.c2
    obtain ⟨u, hu⟩ : ∃ z, usN M X k = z := ⟨_, rfl⟩
    simp only [hu] at HCC HV ⊢
    clear hu HC HEE HK HUB
    by_cases hpu : P < u
    case pos =>
      obtain rfl : C = 24 := HCC.out.trans (if_pos hpu)
      obtain rfl : R = 0 := HV.out.trans (if_neg (by decide))
      go_wp2_with fail
      go_ret2
      exact ⟨rfl, HB.out⟩
    obtain rfl : C = 0 := HCC.out.trans (if_neg hpu)
    obtain rfl : R = u := HV.out.trans (if_pos rfl)
    go_wp2_with fail
    go_ret2
    exact ⟨rfl, HB.out⟩
end Go.Proofs.Ytejhakkfgfahaaa
