/- Lemmas: E32, E33, E23. -/
import Derived.Test.YtejhakkfgfahaaaBq10
import Derived.Test.YtejhakkfgfahaaaBq18
set_option linter.unusedVariables false
set_option linter.unusedSimpArgs false
/- SameLooks of the reference. -/
namespace Go.Proofs.Ytejhakkfgfahaaa
open Go.RowKit Go.Shelf Go.Great
structure CellW (w : World) (b o : Nat) (v : Value) : Prop where c : w.cell? ⟨b, o, none⟩ = some v
theorem CellW.below {w w' : World} {b o : Nat} {v : Value} (h : CellW w b o v) (hb : Below w.heap.size w w') : CellW w' b o v := ⟨(hb.cell (p := ⟨b, o, none⟩) (World.block_lt_of_cell? w _ h.c)).trans h.c⟩
set_option maxHeartbeats 8000000 in
set_option maxRecDepth 100000 in
theorem SameLooks_any (A B : Option Addr) (n c d : Nat) (F : Nat → Nat → Int) (P Q : Nat → Int) (w : World) (hn : n ≤ 1000) (hA : LooksAt w 0 A n F P Q) (hB : LooksAt w 0 B n F P Q) :
    Calls Try.prog 34 #[.slice A n c, .slice B n d] w fun e w' => e = .returned (.bool true) ∧ Below w.heap.size w w' := by
  have HLA := hide hA
  have HLB := hide hB
  clear hA hB
  go_enter Try.func34, Try.ntmps34
  go_wp2_with fail
  go_loopw [5] (fun i wr => ∃ k : Nat, k ≤ n ∧ i = .int .i64 (k : Int) ∧ Hid (Below w.heap.size w wr)) (fun i _ => n - (Go.RowKit.intOf i).toNat)
  case atStart => exact ⟨0, Nat.zero_le _, rfl, hide (Below.refl _ _)⟩
  case round =>
    obtain ⟨k, hk, rfl, HB⟩ := hrel
    obtain ⟨wA, rfl⟩ : ∃ x : World, x = wr := ⟨_, rfl⟩
    by_cases hlt : k < n
    case neg =>
      obtain rfl : k = n := by omega
      go_wp2_with fail
      go_ret
      exact ⟨rfl, HB.out⟩
    have hltz : (k : Int) < (n : Int) := by omega
    obtain ⟨b, o, Ai, ci, rfl, hb, c0, c1, c2, hI⟩ := (HLA.out.below HB.out) k hlt
    obtain ⟨b', o', Bi, di, rfl, hb', d0, d1, d2, hJ⟩ := (HLB.out.below HB.out) k hlt
    have HA0 := hide (CellW.mk c0)
    have HA1 := hide (CellW.mk c1)
    have HA2 := hide (CellW.mk c2)
    have HB0 := hide (CellW.mk d0)
    have HB1 := hide (CellW.mk d1)
    have HB2 := hide (CellW.mk d2)
    have HI := hide hI
    have HJ := hide hJ
    clear c0 c1 c2 d0 d1 d2 hI hJ hb hb'
    have HIN := hide (fun W (h : IntsAt W 0 Ai 8 (F k)) (l : IntsAt W 0 Bi 8 (F k)) => (show Calls Try.prog 19 #[.slice Ai 8 ci, .slice Bi 8 di] W fun e w' => e = .returned (.bool true) ∧ ∃ q, w' = W.drewN q by
      have := ints_any Ai Bi 8 8 ci di (F k) (F k) W (by decide) (by decide) h l
      rw [intsB_iff.2 ⟨rfl, fun _ _ => rfl⟩] at this
      exact this))
    obtain ⟨p, hp⟩ : ∃ z, P k = z := ⟨_, rfl⟩
    obtain ⟨q, hq⟩ : ∃ z, Q k = z := ⟨_, rfl⟩
    simp only [hp] at HA1 HB1
    simp only [hq] at HA2 HB2
    clear hp hq
    go_upto_region 6 with fail
    refine wp_region_held_drew (S := fun w' => w'.cell? ⟨b, o + k * 3, none⟩ = some (.slice Ai 8 ci) ∧ w'.cell? ⟨b, o + k * 3 + 1, none⟩ = some (.int .i64 p) ∧ w'.cell? ⟨b, o + k * 3 + 2, none⟩ = some (.int .i64 q) ∧ w'.cell? ⟨b', o' + k * 3, none⟩ = some (.slice Bi 8 di) ∧ w'.cell? ⟨b', o' + k * 3 + 1, none⟩ = some (.int .i64 p) ∧ w'.cell? ⟨b', o' + k * 3 + 2, none⟩ = some (.int .i64 q)) (by kernel_rfl) ⟨HA0.out.c, HA1.out.c, HA2.out.c, HB0.out.c, HB1.out.c, HB2.out.c⟩ (fun hHeld => ?_)
    obtain ⟨w_1, hw_1⟩ : ∃ q : World, q = wA.drew := ⟨_, rfl⟩
    rw [← hw_1] at hHeld ⊢
    have hc_1 : Below wA.heap.size wA w_1 := by rw [hw_1]; exact (Below.refl _ _).drew
    clear hw_1
    replace HA0 := hide (HA0.out.below hc_1)
    replace HA1 := hide (HA1.out.below hc_1)
    replace HA2 := hide (HA2.out.below hc_1)
    replace HB0 := hide (HB0.out.below hc_1)
    replace HB1 := hide (HB1.out.below hc_1)
    replace HB2 := hide (HB2.out.below hc_1)
    replace HI := hide (HI.out.below hc_1)
    replace HJ := hide (HJ.out.below hc_1)
    replace HB := hide (HB.out.trans (hc_1.mono HB.out.size))
    clear hc_1
    refine wpAnyH_take (i := 0) (oi := ⟨some 17, _, _, _, _, _⟩) (v := ?_) rfl (by kernel_rfl) (by kernel_rfl) (by kernel_rfl) (fun _ _ _ h => h) (Or.inl ⟨by rfl, ?_⟩) (by assumption) ?_
    rotate_left
    · (intro w' hSw; (try dsimp only at hSw); go_simp <;> (with_reducible rfl))
    try simp only [Act.put, List.setIfInBounds_toArray, List.set_cons_zero, List.set_cons_succ]
    refine wpAnyH_take (i := 1) (oi := ⟨some 18, _, _, _, _, _⟩) (v := ?_) rfl (by kernel_rfl) (by kernel_rfl) (by kernel_rfl) (fun _ _ _ h => h) (Or.inl ⟨by rfl, ?_⟩) (by assumption) ?_
    rotate_left
    · (intro w' hSw; (try dsimp only at hSw); go_simp <;> (with_reducible rfl))
    try simp only [Act.put, List.setIfInBounds_toArray, List.set_cons_zero, List.set_cons_succ]
    refine wpAnyH_take (i := 2) (oi := ⟨some 19, _, _, _, _, _⟩) (v := ?_) rfl (by kernel_rfl) (by kernel_rfl) (by kernel_rfl) (fun _ _ _ h => h) (Or.inl ⟨by rfl, ?_⟩) (by assumption) ?_
    rotate_left
    · (intro w' hSw; (try dsimp only at hSw); go_simp <;> (with_reducible rfl))
    try simp only [Act.put, List.setIfInBounds_toArray, List.set_cons_zero, List.set_cons_succ]
    refine wpAnyH_take (i := 3) (oi := ⟨some 20, _, _, _, _, _⟩) (v := ?_) rfl (by kernel_rfl) (by kernel_rfl) (by kernel_rfl) (fun _ _ _ h => h) (Or.inl ⟨by rfl, ?_⟩) (by assumption) ?_
    rotate_left
    · (intro w' hSw; (try dsimp only at hSw); go_simp <;> (with_reducible rfl))
    try simp only [Act.put, List.setIfInBounds_toArray, List.set_cons_zero, List.set_cons_succ]
    refine wpAnyH_take (i := 4) (oi := ⟨some 21, _, _, _, _, _⟩) (v := ?_) rfl (by kernel_rfl) (by kernel_rfl) (by kernel_rfl) (fun _ _ _ h => h) (Or.inl ⟨by rfl, ?_⟩) (by assumption) ?_
    rotate_left
    · (intro w' hSw; (try dsimp only at hSw); go_simp <;> (with_reducible rfl))
    try simp only [Act.put, List.setIfInBounds_toArray, List.set_cons_zero, List.set_cons_succ]
    refine wpAnyH_take (i := 5) (oi := ⟨some 22, _, _, _, _, _⟩) (v := ?_) rfl (by kernel_rfl) (by kernel_rfl) (by kernel_rfl) (fun _ _ _ h => h) (Or.inl ⟨by rfl, ?_⟩) (by assumption) ?_
    rotate_left
    · (intro w' hSw; (try dsimp only at hSw); go_simp <;> (with_reducible rfl))
    try simp only [Act.put, List.setIfInBounds_toArray, List.set_cons_zero, List.set_cons_succ]
    refine wpAnyH_take (i := 6) (oi := ⟨some 23, _, _, _, _, _⟩) (v := ?_) rfl (by kernel_rfl) (by kernel_rfl) (by kernel_rfl) (fun _ _ _ h => h) (Or.inl ⟨by rfl, ?_⟩) (by assumption) ?_
    rotate_left
    · (intro w' hSw; (try dsimp only at hSw); go_simp <;> (with_reducible rfl))
    try simp only [Act.put, List.setIfInBounds_toArray, List.set_cons_zero, List.set_cons_succ]
    refine wpAnyH_take (i := 7) (oi := ⟨some 24, _, _, _, _, _⟩) (v := ?_) rfl (by kernel_rfl) (by kernel_rfl) (by kernel_rfl) (fun _ _ _ h => h) (Or.inl ⟨by rfl, ?_⟩) (by assumption) ?_
    rotate_left
    · (intro w' hSw; (try dsimp only at hSw); go_simp <;> (with_reducible rfl))
    try simp only [Act.put, List.setIfInBounds_toArray, List.set_cons_zero, List.set_cons_succ]
    refine wpAnyH_take (i := 8) (oi := ⟨some 25, _, _, _, _, _⟩) (v := ?_) rfl (by kernel_rfl) (by kernel_rfl) (by kernel_rfl) (fun _ _ _ h => h) (Or.inl ⟨by rfl, ?_⟩) (by assumption) ?_
    rotate_left
    · (intro w' hSw; (try dsimp only at hSw); go_simp <;> (with_reducible rfl))
    try simp only [Act.put, List.setIfInBounds_toArray, List.set_cons_zero, List.set_cons_succ]
    refine wpAnyH_take (i := 9) (oi := ⟨some 26, _, _, _, _, _⟩) (v := ?_) rfl (by kernel_rfl) (by kernel_rfl) (by kernel_rfl) (fun _ _ _ h => h) (Or.inl ⟨by rfl, ?_⟩) (by assumption) ?_
    rotate_left
    · (intro w' hSw; (try dsimp only at hSw); go_simp <;> (with_reducible rfl))
    try simp only [Act.put, List.setIfInBounds_toArray, List.set_cons_zero, List.set_cons_succ]
    refine wpAnyH_take (i := 10) (oi := ⟨some 27, _, _, _, _, _⟩) (v := ?_) rfl (by kernel_rfl) (by kernel_rfl) (by kernel_rfl) (fun _ _ _ h => h) (Or.inl ⟨by rfl, ?_⟩) (by assumption) ?_
    rotate_left
    · (intro w' hSw; (try dsimp only at hSw); go_simp <;> (with_reducible rfl))
    try simp only [Act.put, List.setIfInBounds_toArray, List.set_cons_zero, List.set_cons_succ]
    refine wpAnyH_take (i := 11) (oi := ⟨some 28, _, _, _, _, _⟩) (v := ?_) rfl (by kernel_rfl) (by kernel_rfl) (by kernel_rfl) (fun _ _ _ h => h) (Or.inl ⟨by rfl, ?_⟩) (by assumption) ?_
    rotate_left
    · (intro w' hSw; (try dsimp only at hSw); go_simp <;> (with_reducible rfl))
    try simp only [Act.put, List.setIfInBounds_toArray, List.set_cons_zero, List.set_cons_succ]
    refine wpAnyH_ready (rs := [12]) (by kernel_rfl) (by simp) ?_
    refine AllReadyH.cons (o := ⟨some 29, _, _, _, _, _⟩) rfl (fun K' hK => ?_) AllReadyH.nil
    go_simp
    go_at_call 19
    refine (HIN.out _ HI.out HJ.out).mono ?_
    rintro e_ v_2 ⟨rfl, q_2, rfl⟩
    obtain ⟨w_2, hw_2⟩ : ∃ z : World, z = w_1.drewN q_2 := ⟨_, rfl⟩
    rw [← hw_2]
    have hc_2 : Below w_1.heap.size w_1 w_2 := by rw [hw_2]; exact Go.below_drewN (Below.refl _ _) _
    clear hw_2
    replace HA0 := hide (HA0.out.below hc_2)
    replace HA1 := hide (HA1.out.below hc_2)
    replace HA2 := hide (HA2.out.below hc_2)
    replace HB0 := hide (HB0.out.below hc_2)
    replace HB1 := hide (HB1.out.below hc_2)
    replace HB2 := hide (HB2.out.below hc_2)
    replace HI := hide (HI.out.below hc_2)
    replace HJ := hide (HJ.out.below hc_2)
    replace HB := hide (HB.out.trans (hc_2.mono HB.out.size))
    clear hc_2
    go_wp2_with fail
    refine hK.out _ _ ⟨HA0.out.c, HA1.out.c, HA2.out.c, HB0.out.c, HB1.out.c, HB2.out.c⟩ (fun hHeld => ?_)
    clear hK K'
    try simp only [Act.put, List.setIfInBounds_toArray, List.set_cons_zero, List.set_cons_succ]
    refine wpAnyH_take (i := 13) (oi := ⟨some 30, _, _, _, _, _⟩) (v := ?_) rfl (by kernel_rfl) (by kernel_rfl) (by kernel_rfl) (fun _ _ _ h => h) (Or.inl ⟨by rfl, ?_⟩) (by assumption) ?_
    rotate_left
    · (intro w' hSw; (try dsimp only at hSw); go_simp <;> (with_reducible rfl))
    try simp only [Act.put, List.setIfInBounds_toArray, List.set_cons_zero, List.set_cons_succ]
    refine wpAnyH_take (i := 14) (oi := ⟨some 31, _, _, _, _, _⟩) (v := ?_) rfl (by kernel_rfl) (by kernel_rfl) (by kernel_rfl) (fun _ _ _ h => h) (Or.inl ⟨by rfl, ?_⟩) (by assumption) ?_
    rotate_left
    · (intro w' hSw; (try dsimp only at hSw); go_simp <;> (with_reducible rfl))
    try simp only [Act.put, List.setIfInBounds_toArray, List.set_cons_zero, List.set_cons_succ]
    refine wpAnyH_take (i := 15) (oi := ⟨some 32, _, _, _, _, _⟩) (v := ?_) rfl (by kernel_rfl) (by kernel_rfl) (by kernel_rfl) (fun _ _ _ h => h) (Or.inl ⟨by rfl, ?_⟩) (by assumption) ?_
    rotate_left
    · (intro w' hSw; (try dsimp only at hSw); go_simp <;> (with_reducible rfl))
    try simp only [Act.put, List.setIfInBounds_toArray, List.set_cons_zero, List.set_cons_succ]
    refine wpAnyH_take (i := 16) (oi := ⟨some 33, _, _, _, _, _⟩) (v := ?_) rfl (by kernel_rfl) (by kernel_rfl) (by kernel_rfl) (fun _ _ _ h => h) (Or.inl ⟨by rfl, ?_⟩) (by assumption) ?_
    rotate_left
    · (intro w' hSw; (try dsimp only at hSw); go_simp <;> (with_reducible rfl))
    try simp only [Act.put, List.setIfInBounds_toArray, List.set_cons_zero, List.set_cons_succ]
    refine wpAnyH_take (i := 17) (oi := ⟨some 34, _, _, _, _, _⟩) (v := ?_) rfl (by kernel_rfl) (by kernel_rfl) (by kernel_rfl) (fun _ _ _ h => h) (Or.inl ⟨by rfl, ?_⟩) (by assumption) ?_
    rotate_left
    · (intro w' hSw; (try dsimp only at hSw); go_simp <;> (with_reducible rfl))
    try simp only [Act.put, List.setIfInBounds_toArray, List.set_cons_zero, List.set_cons_succ]
    refine wpAnyH_take (i := 18) (oi := ⟨some 35, _, _, _, _, _⟩) (v := ?_) rfl (by kernel_rfl) (by kernel_rfl) (by kernel_rfl) (fun _ _ _ h => h) (Or.inl ⟨by rfl, ?_⟩) (by assumption) ?_
    rotate_left
    · (intro w' hSw; (try dsimp only at hSw); go_simp <;> (with_reducible rfl))
    try simp only [Act.put, List.setIfInBounds_toArray, List.set_cons_zero, List.set_cons_succ]
    refine wpAnyH_take (i := 19) (oi := ⟨some 36, _, _, _, _, _⟩) (v := ?_) rfl (by kernel_rfl) (by kernel_rfl) (by kernel_rfl) (fun _ _ _ h => h) (Or.inl ⟨by rfl, ?_⟩) (by assumption) ?_
    rotate_left
    · (intro w' hSw; (try dsimp only at hSw); go_simp <;> (with_reducible rfl))
    try simp only [Act.put, List.setIfInBounds_toArray, List.set_cons_zero, List.set_cons_succ]
    refine wpAnyH_take (i := 20) (oi := ⟨some 37, _, _, _, _, _⟩) (v := ?_) rfl (by kernel_rfl) (by kernel_rfl) (by kernel_rfl) (fun _ _ _ h => h) (Or.inl ⟨by rfl, ?_⟩) (by assumption) ?_
    rotate_left
    · (intro w' hSw; (try dsimp only at hSw); go_simp <;> (with_reducible rfl))
    try simp only [Act.put, List.setIfInBounds_toArray, List.set_cons_zero, List.set_cons_succ]
    refine wpAnyH_take (i := 21) (oi := ⟨some 38, _, _, _, _, _⟩) (v := ?_) rfl (by kernel_rfl) (by kernel_rfl) (by kernel_rfl) (fun _ _ _ h => h) (Or.inl ⟨by rfl, ?_⟩) (by assumption) ?_
    rotate_left
    · (intro w' hSw; (try dsimp only at hSw); go_simp <;> (with_reducible rfl))
    try simp only [Act.put, List.setIfInBounds_toArray, List.set_cons_zero, List.set_cons_succ]
    refine wpAnyH_take (i := 22) (oi := ⟨some 39, _, _, _, _, _⟩) (v := ?_) rfl (by kernel_rfl) (by kernel_rfl) (by kernel_rfl) (fun _ _ _ h => h) (Or.inl ⟨by rfl, ?_⟩) (by assumption) ?_
    rotate_left
    · (intro w' hSw; (try dsimp only at hSw); go_simp <;> (with_reducible rfl))
    try simp only [Act.put, List.setIfInBounds_toArray, List.set_cons_zero, List.set_cons_succ]
    refine wpAnyH_take (i := 23) (oi := ⟨some 40, _, _, _, _, _⟩) (v := ?_) rfl (by kernel_rfl) (by kernel_rfl) (by kernel_rfl) (fun _ _ _ h => h) (Or.inl ⟨by rfl, ?_⟩) (by assumption) ?_
    rotate_left
    · (intro w' hSw; (try dsimp only at hSw); go_simp <;> (with_reducible rfl))
    try simp only [Act.put, List.setIfInBounds_toArray, List.set_cons_zero, List.set_cons_succ]
    refine wpAnyH_take (i := 24) (oi := ⟨some 41, _, _, _, _, _⟩) (v := ?_) rfl (by kernel_rfl) (by kernel_rfl) (by kernel_rfl) (fun _ _ _ h => h) (Or.inl ⟨by rfl, ?_⟩) (by assumption) ?_
    rotate_left
    · (intro w' hSw; (try dsimp only at hSw); go_simp <;> (with_reducible rfl))
    try simp only [Act.put, List.setIfInBounds_toArray, List.set_cons_zero, List.set_cons_succ]
    refine wpAnyH_take (i := 25) (oi := ⟨some 42, _, _, _, _, _⟩) (v := ?_) rfl (by kernel_rfl) (by kernel_rfl) (by kernel_rfl) (fun _ _ _ h => h) (Or.inl ⟨by rfl, ?_⟩) (by assumption) ?_
    rotate_left
    · (intro w' hSw; (try dsimp only at hSw); go_simp <;> (with_reducible rfl))
    try simp only [Act.put, List.setIfInBounds_toArray, List.set_cons_zero, List.set_cons_succ]
    refine wpAnyH_take (i := 26) (oi := ⟨some 43, _, _, _, _, _⟩) (v := ?_) rfl (by kernel_rfl) (by kernel_rfl) (by kernel_rfl) (fun _ _ _ h => h) (Or.inl ⟨by rfl, ?_⟩) (by assumption) ?_
    rotate_left
    · (intro w' hSw; (try dsimp only at hSw); go_simp <;> (with_reducible rfl))
    try simp only [Act.put, List.setIfInBounds_toArray, List.set_cons_zero, List.set_cons_succ]
    refine wpAnyH_done (by kernel_rfl) ?_ _
    go_wp2_with fail
    go_roundw
    case rel => exact ⟨k + 1, by omega, by go_num, HB⟩
    case measure => simp [Go.RowKit.intOf]; omega
end Go.Proofs.Ytejhakkfgfahaaa
/- The walk of BeamRefines. -/
namespace Go.Proofs.Ytejhakkfgfahaaa
open Go.RowKit Go.Shelf Go.Great
theorem LooksAt.weak {w : World} {lo lo' n : Nat} {A : Option Addr} {F : Nat → Nat → Int} {P Q : Nat → Int} (h : LooksAt w lo A n F P Q) (hl : lo' ≤ lo) : LooksAt w lo' A n F P Q := fun i hi => by
  obtain ⟨b, o, Ai, ci, e, h1, h2, h3, h4, h5⟩ := h i hi
  exact ⟨b, o, Ai, ci, e, h1, h2, h3, h4, h5.weak hl⟩
def bestB (s k : Nat) : Bool := gnE 8 (stF k 1) s == 0 && lgE (gnP 8 (stF s 1) s) (gnQ 8 (stF s 1) s) (gnP 8 (stF k 1) s) (gnQ 8 (stF k 1) s) == 0 && (k == s || decide (0 < lgR (gnP 8 (stF s 1) s) (gnQ 8 (stF s 1) s) (gnP 8 (stF k 1) s) (gnQ 8 (stF k 1) s)))
set_option maxRecDepth 100000 in
theorem best_all : (List.range 8).all (fun s => (List.range 8).all fun k => bestB s k) = true := by kernel_rfl
theorem best_at {s k : Nat} (hs : s ≤ 7) (hk : k ≤ 7) : gnE 8 (stF k 1) s = 0 ∧ lgE (gnP 8 (stF s 1) s) (gnQ 8 (stF s 1) s) (gnP 8 (stF k 1) s) (gnQ 8 (stF k 1) s) = 0 ∧ (k ≠ s → 0 < lgR (gnP 8 (stF s 1) s) (gnQ 8 (stF s 1) s) (gnP 8 (stF k 1) s) (gnQ 8 (stF k 1) s)) := by
  have h := List.all_eq_true.1 (List.all_eq_true.1 best_all s (List.mem_range.2 (by omega))) k (List.mem_range.2 (by omega))
  unfold bestB at h
  simp only [Bool.and_eq_true, Bool.or_eq_true, beq_iff_eq, decide_eq_true_eq] at h
  exact ⟨h.1.1, h.1.2, fun hne => h.2.resolve_left hne⟩
theorem steE_ok {k : Nat} (hk : k ≤ 7) : steE 8 (k : Int) = 0 := by
  unfold steE stepE
  rw [show withinB 8 1 8 = true from rfl, withinB_iff.2 ⟨by omega, by omega⟩]
  rfl
set_option maxHeartbeats 8000000 in
set_option maxRecDepth 100000 in
theorem beamRefines_walk (s : Int) (w : World) :
    Calls Try.prog 7 #[.int .i64 s] w fun e w' => e = .returned (.bool true) ∧ Below w.heap.size w w' := by
  have HRF := hide (fun W => Refined_any s W)
  have HSE := hide (fun W => StepErr_any s W)
  have HSZ := hide (stepE_zero (s := s))
  have HNN := hide (show rfN s = if stepE s = 0 then 6 else 0 from rfl)
  have HRR := hide (show rfR s = if stepE s = 0 then ((rfK s.toNat 3 : Nat) : Int) else 0 from rfl)
  obtain ⟨V, hV⟩ : ∃ z, stepE s = z := ⟨_, rfl⟩
  obtain ⟨N, hN⟩ : ∃ z, rfN s = z := ⟨_, rfl⟩
  obtain ⟨R, hR⟩ : ∃ z, rfR s = z := ⟨_, rfl⟩
  simp only [hV, hN, hR] at HRF HSE HSZ HNN HRR
  clear hV hN hR
  go_enter Try.func7, Try.ntmps7
  go_wp2_with fail
  refine (awake_any _).mono ?_
  rintro e_ w_1 ⟨rfl, hb_1⟩
  have HB := hide hb_1
  clear hb_1
  go_wp2_with fail
  refine (HRF.out _).mono ?_
  rintro e_ w_2 ⟨v, rfl, ho, hb_2⟩
  replace HB := hide (HB.out.trans (hb_2.mono HB.out.size))
  clear hb_2
  obtain ⟨A, c, rfl, hc, hc9, hl⟩ := ho.form
  have HL := hide (hl.weak (Nat.zero_le _))
  clear ho hl
  go_wp2_with fail
  refine (HSE.out _).mono ?_
  rintro e_ v_ ⟨rfl, rfl⟩
  clear HRF HSE
  by_cases h0 : V = 0
  case neg =>
    have tv : (V != 0) = true := by simpa using h0
    obtain rfl : N = 0 := HNN.out.trans (if_neg h0)
    obtain rfl : R = 0 := HRR.out.trans (if_neg h0)
    go_wp2_with fail
    go_ret
    exact ⟨by first | rfl | simp, HB.out⟩
  subst h0
  obtain ⟨hs0, hs7⟩ := HSZ.out (by first | rfl | trivial)
  obtain ⟨m, rfl⟩ : ∃ m : Nat, s = (m : Int) := ⟨s.toNat, by omega⟩
  have hm7 : m ≤ 7 := by omega
  obtain rfl : N = 6 := HNN.out.trans (if_pos rfl)
  have hRm : R = (m : Int) := by
    rw [HRR.out, if_pos rfl, show ((m : Int)).toNat = m from rfl, rfK_is hm7]
  subst hRm
  rw [show ((m : Int)).toNat = m from rfl] at HL
  clear HSZ HNN HRR
  have HRE := hide (fun W => (show Calls Try.prog 33 #[.int .i64 (m : Int)] W fun e w' => ∃ v, e = .returned (.tuple #[v, .int .i64 (m : Int)]) ∧ OwnLooks w' W.heap.size v 6 (rfF m) (rfP m) (rfQ m) ∧ Below W.heap.size W w' by
      have := Refined_ref m W hm7
      rw [rfK_is hm7] at this
      exact this))
  go_wp2_with fail
  refine (HRE.out _).mono ?_
  rintro e_ w_3 ⟨v2, rfl, ho, hb_3⟩
  replace HL := hide (HL.out.below hb_3)
  replace HB := hide (HB.out.trans (hb_3.mono HB.out.size))
  clear hb_3
  obtain ⟨B, d, rfl, hd, hd9, hl⟩ := ho.form
  have HL2 := hide (hl.weak (Nat.zero_le _))
  clear ho hl HRE
  go_wp2_with fail
  refine (SameLooks_any A B 6 c d _ _ _ _ (by decide) HL.out HL2.out).mono ?_
  rintro e_ w_4 ⟨rfl, hb_4⟩
  replace HL := hide (HL.out.below hb_4)
  replace HL2 := hide (HL2.out.below hb_4)
  replace HB := hide (HB.out.trans (hb_4.mono HB.out.size))
  clear hb_4
  clear HL HL2
  have HSG := hide (fun (k : Nat) W (hk : k ≤ 7) => (show Calls Try.prog 15 #[.int .i64 8, .int .i64 (k : Int)] W fun e w' => ∃ A c, e = .returned (.tuple #[.agg #[.slice A 8 c], .int .i64 0]) ∧ IntsAt w' W.heap.size A 8 (stF k 1) ∧ Below W.heap.size W w' by
      refine (Steering_any 8 (k : Int) W).mono ?_
      rintro e_ w_ ⟨A, q, c, rfl, hm, -, -, hi, hb⟩
      have e0 := steE_ok hk
      obtain rfl : q = 8 := hm.1 e0
      rw [e0]
      exact ⟨A, c, rfl, hi, hb⟩))
  have HGG := hide (fun (k : Nat) (A : Option Addr) c W (hk : k ≤ 7) (h : IntsAt W 0 A 8 (stF k 1)) => (show Calls Try.prog 22 #[.agg #[.slice A 8 c], .int .i64 (m : Int)] W fun e w' => e = .returned (.tuple #[.agg #[.int .i64 (gnP 8 (stF k 1) m), .int .i64 (gnQ 8 (stF k 1) m)], .int .i64 0]) ∧ Below W.heap.size W w' by
      have := GainOf_any A 8 c (stF k 1) (m : Int) W (by decide) h
      rw [(best_at hm7 hk).1] at this
      exact this))
  have HBS := hide (fun (k : Nat) (hk : k ≤ 7) => (best_at hm7 hk).2)
  have HLG := hide (fun a b c d W => Larger_any a b c d W)
  obtain ⟨gp, hgp⟩ : ∃ z : Nat → Int, (fun k => gnP 8 (stF k 1) (m : Int)) = z := ⟨_, rfl⟩
  obtain ⟨gq, hgq⟩ : ∃ z : Nat → Int, (fun k => gnQ 8 (stF k 1) (m : Int)) = z := ⟨_, rfl⟩
  have hp : ∀ k, gnP 8 (stF k 1) (m : Int) = gp k := fun k => congrFun hgp k
  have hq : ∀ k, gnQ 8 (stF k 1) (m : Int) = gq k := fun k => congrFun hgq k
  simp only [hp, hq] at HGG HBS
  clear hp hq hgp hgq
  go_wp2_with fail
  refine (HSG.out m _ hm7).mono ?_
  rintro e_ w_5 ⟨C, e, rfl, hi, hb_5⟩
  replace HB := hide (HB.out.trans (hb_5.mono HB.out.size))
  clear hb_5
  have HI := hide (hi.weak (Nat.zero_le _))
  clear hi
  go_upto_region 11 with fail
  obtain ⟨g9, hg9⟩ : ∃ q, w_5.heap.size = q := ⟨_, rfl⟩
  obtain ⟨w_6, hw_6⟩ : ∃ q : World, q = w_5.alloc (.cells #[.slice C 8 e] 24) := ⟨_, rfl⟩
  try rw [← hw_6]
  have HX9 := hide (show Box w_6 g9 24 #[.slice C 8 e] by rw [hw_6]; exact Box.made hg9.symm)
  have hc_6 : Below w_5.heap.size w_5 w_6 := by rw [hw_6]; exact (Below.refl _ _).alloc (Nat.le_refl _) _
  clear hw_6
  replace HI := hide (HI.out.below hc_6)
  replace HB := hide (HB.out.trans (hc_6.mono HB.out.size))
  clear hc_6
  try simp only [hg9]
  clear hg9
  obtain ⟨x0, -, hlx⟩ := HX9.out.c1
  go_wp2_with fail
  refine (HGG.out m _ _ _ hm7 HI.out).mono ?_
  rintro e_ w_7 ⟨rfl, hb_7⟩
  replace HI := hide (HI.out.below hb_7)
  replace HX9 := hide (HX9.out.below hb_7)
  replace HB := hide (HB.out.trans (hb_7.mono HB.out.size))
  clear hb_7
  clear x0 hlx
  clear HI HX9
  obtain ⟨p0, hp0⟩ : ∃ z, gp m = z := ⟨_, rfl⟩
  obtain ⟨q0, hq0⟩ : ∃ z, gq m = z := ⟨_, rfl⟩
  simp only [hp0, hq0] at HBS ⊢
  clear hp0 hq0
  go_upto_region 12 with fail
  obtain ⟨g11, hg11⟩ : ∃ q, w_7.heap.size = q := ⟨_, rfl⟩
  obtain ⟨w_8, hw_8⟩ : ∃ q : World, q = w_7.alloc (.cells #[.int .i64 p0, .int .i64 q0] 45) := ⟨_, rfl⟩
  try rw [← hw_8]
  have HX11 := hide (show Box w_8 g11 45 #[.int .i64 p0, .int .i64 q0] by rw [hw_8]; exact Box.made hg11.symm)
  have hc_8 : Below w_7.heap.size w_7 w_8 := by rw [hw_8]; exact (Below.refl _ _).alloc (Nat.le_refl _) _
  clear hw_8
  replace HB := hide (HB.out.trans (hc_8.mono HB.out.size))
  clear hc_8
  try simp only [hg11]
  clear hg11
  go_wp2_with fail
  go_loopw [13] (fun i wr => ∃ k : Nat, k ≤ 8 ∧ i = .int .i64 (k : Int) ∧ Hid (Box wr g11 45 #[.int .i64 p0, .int .i64 q0]) ∧ Hid (Below w.heap.size w wr)) (fun i _ => 8 - (Go.RowKit.intOf i).toNat)
  case atStart => exact ⟨0, Nat.zero_le _, rfl, HX11, HB⟩
  case round =>
    clear HX11 HB
    obtain ⟨k, hk, rfl, HX11, HB⟩ := hrel
    obtain ⟨wA, rfl⟩ : ∃ x : World, x = wr := ⟨_, rfl⟩
    by_cases hlt : k < 8
    case neg =>
      obtain rfl : k = 8 := by omega
      go_wp2_with fail
      go_ret
      exact ⟨rfl, HB.out⟩
    have hltz : (k : Int) < 8 := by omega
    obtain ⟨hE, hgt⟩ := HBS.out k (by omega)
    have HGK := hide (fun A c W h => HGG.out k A c W (by omega) h)
    obtain ⟨pk, hpk⟩ : ∃ z, gp k = z := ⟨_, rfl⟩
    obtain ⟨qk, hqk⟩ : ∃ z, gq k = z := ⟨_, rfl⟩
    simp only [hpk, hqk] at HGK hE hgt
    have HLK := hide (fun W => HLG.out p0 q0 pk qk W)
    simp only [hE] at HLK
    obtain ⟨L, hL⟩ : ∃ z, lgR p0 q0 pk qk = z := ⟨_, rfl⟩
    simp only [hL] at HLK hgt
    have HGT := hide hgt
    clear hpk hqk hE hL hgt
    go_wp2_with fail
    refine (HSG.out k _ (by omega)).mono ?_
    rintro e_ w_9 ⟨C2, e2, rfl, hi, hb_9⟩
    replace HX11 := hide (HX11.out.below hb_9)
    replace HB := hide (HB.out.trans (hb_9.mono HB.out.size))
    clear hb_9
    have HI := hide (hi.weak (Nat.zero_le _))
    clear hi
    go_upto_region 18 with fail
    obtain ⟨g14, hg14⟩ : ∃ q, w_9.heap.size = q := ⟨_, rfl⟩
    obtain ⟨w_10, hw_10⟩ : ∃ q : World, q = w_9.alloc (.cells #[.slice C2 8 e2] 24) := ⟨_, rfl⟩
    try rw [← hw_10]
    have HX14 := hide (show Box w_10 g14 24 #[.slice C2 8 e2] by rw [hw_10]; exact Box.made hg14.symm)
    have hc_10 : Below w_9.heap.size w_9 w_10 := by rw [hw_10]; exact (Below.refl _ _).alloc (Nat.le_refl _) _
    clear hw_10
    replace HX11 := hide (HX11.out.below hc_10)
    replace HI := hide (HI.out.below hc_10)
    replace HB := hide (HB.out.trans (hc_10.mono HB.out.size))
    clear hc_10
    try simp only [hg14]
    clear hg14
    obtain ⟨x0, -, hlx⟩ := HX14.out.c1
    go_wp2_with fail
    refine (HGK.out _ _ _ HI.out).mono ?_
    rintro e_ w_11 ⟨rfl, hb_11⟩
    replace HX11 := hide (HX11.out.below hb_11)
    replace HI := hide (HI.out.below hb_11)
    replace HX14 := hide (HX14.out.below hb_11)
    replace HB := hide (HB.out.trans (hb_11.mono HB.out.size))
    clear hb_11
    clear x0 hlx
    clear HI HX14
    go_upto_region 19 with fail
    obtain ⟨g16, hg16⟩ : ∃ q, w_11.heap.size = q := ⟨_, rfl⟩
    obtain ⟨w_12, hw_12⟩ : ∃ q : World, q = w_11.alloc (.cells #[.int .i64 pk, .int .i64 qk] 45) := ⟨_, rfl⟩
    try rw [← hw_12]
    have HX16 := hide (show Box w_12 g16 45 #[.int .i64 pk, .int .i64 qk] by rw [hw_12]; exact Box.made hg16.symm)
    have hc_12 : Below w_11.heap.size w_11 w_12 := by rw [hw_12]; exact (Below.refl _ _).alloc (Nat.le_refl _) _
    clear hw_12
    replace HX11 := hide (HX11.out.below hc_12)
    replace HB := hide (HB.out.trans (hc_12.mono HB.out.size))
    clear hc_12
    try simp only [hg16]
    clear hg16
    obtain ⟨x0, x1, -, -, hlx⟩ := HX11.out.c2
    obtain ⟨y0, y1, -, -, hly⟩ := HX16.out.c2
    go_wp2_with fail
    refine (HLK.out _).mono ?_
    rintro e_ w_13 ⟨rfl, hb_13⟩
    replace HX11 := hide (HX11.out.below hb_13)
    replace HX16 := hide (HX16.out.below hb_13)
    replace HB := hide (HB.out.trans (hb_13.mono HB.out.size))
    clear hb_13
    clear x0 x1 hlx y0 y1 hly
    by_cases hkm : k = m
    case pos =>
      have t1 : ((k : Int) != (m : Int)) = false := by simp; omega
      go_wp2_with fail
      go_roundw
      case rel => exact ⟨k + 1, by omega, by go_num, HX11, HB⟩
      case measure => simp [Go.RowKit.intOf]; omega
    have t1 : ((k : Int) != (m : Int)) = true := by simp; omega
    have hL0 : 0 < L := HGT.out hkm
    have t2 : ¬ L ≤ 0 := by omega
    go_wp2_with fail
    go_roundw
    case rel => exact ⟨k + 1, by omega, by go_num, HX11, HB⟩
    case measure => simp [Go.RowKit.intOf]; omega
end Go.Proofs.Ytejhakkfgfahaaa
/- SquareErr of the reference and the walk of BeamLarger. -/
namespace Go.Proofs.Ytejhakkfgfahaaa
open Go.RowKit Go.Great
theorem cmpI_negB (a : Int) : cmpI (-a) 0 = -cmpI a 0 := by
  rcases sign_cases a with ⟨h, e⟩ | ⟨h, e⟩ | ⟨h, e⟩
  · rw [e, cmpI_gt (show 0 < -a by omega)]; rfl
  · subst h; rfl
  · rw [e, cmpI_lt (show -a < 0 by omega)]
theorem compI_negB (p q : Int) : compI (-p) (-q) = -compI p q := by
  unfold compI
  have e1 : -q * (-q * 2) = q * (q * 2) := by rw [Int.neg_mul, Int.neg_mul, Int.mul_neg, Int.neg_neg]
  rw [Int.neg_mul_neg, e1, cmpI_negB, cmpI_negB]
  generalize cmpI (p * p) (q * (q * 2)) = z
  obtain ⟨h1, h2⟩ := cmpI_le p 0
  obtain ⟨h3, h4⟩ := cmpI_le q 0
  generalize cmpI p 0 = s at *
  generalize cmpI q 0 = t at *
  by_cases h : s = t
  · rw [if_pos h, if_pos (by omega), Int.neg_mul]
  · rw [if_neg h, if_neg (by omega)]
    unfold cmpI
    by_cases h5 : s < t
    · rw [if_pos h5, if_neg (by omega), if_pos (by omega)]; rfl
    · rw [if_neg h5, if_pos (show t < s by omega), if_pos (show -s < -t by omega)]
theorem refC_leB (p q : Int) : -1 ≤ refC p q ∧ refC p q ≤ 1 := by
  unfold refC
  split
  · split <;> decide
  · split
    · decide
    · split <;> decide
set_option maxHeartbeats 4000000 in
set_option maxRecDepth 100000 in
theorem SquareErr_any (a b : Int) (w : World) :
    Calls Try.prog 29 #[.agg #[.int .i64 a, .int .i64 b]] w fun e w' => e = .returned (.int .i64 (unI (sqIn a b) 2)) ∧ Below w.heap.size w w' := by
  have W0 := hide (fun W => within_any a (-1000000000000) 1000000000000 W)
  have W1 := hide (fun W => within_any b (-1000000000000) 1000000000000 W)
  have HR := hide (show unI (sqIn a b) 2 = unI (withinB a (-1000000000000) 1000000000000 && withinB b (-1000000000000) 1000000000000) 2 from rfl)
  obtain ⟨b0, h0⟩ : ∃ z, withinB a (-1000000000000) 1000000000000 = z := ⟨_, rfl⟩
  obtain ⟨b1, h1⟩ : ∃ z, withinB b (-1000000000000) 1000000000000 = z := ⟨_, rfl⟩
  simp only [h0, h1] at W0 W1 HR
  rw [HR.out]
  obtain ⟨r, hr⟩ : ∃ z : Int, unI (b0 && b1) 2 = z := ⟨_, rfl⟩
  have HRR := hide hr
  rw [hr]
  clear h0 h1 hr HR
  go_enter Try.func29, Try.ntmps29
  go_upto_region 1 with fail
  obtain ⟨w_1, hw_1⟩ : ∃ q : World, q = (w.alloc (.cells #[.int .i64 a, .int .i64 b] 45)) := ⟨_, rfl⟩
  try rw [← hw_1]
  have HX0 := hide (show Box w_1 (w.heap.size) 45 #[.int .i64 a, .int .i64 b] by rw [hw_1]; exact Box.made rfl)
  have HB := hide (show Below w.heap.size w w_1 by rw [hw_1]; (repeat (first | (with_reducible exact Below.refl _ _) | (with_reducible refine Go.below_drewN ?_ _) | (with_reducible refine Below.drew ?_) | (with_reducible refine Below.alloc ?_ (by first | exact Nat.le_refl _ | (simp; done) | (simp; omega) | omega) _) | (with_reducible refine Below.setCell ?_ (by first | exact Nat.le_refl _ | (simp; done) | (simp; omega) | omega) _))))
  clear hw_1
  obtain ⟨x0, x1, -, -, hlx⟩ := HX0.out.c2
  go_wp2_with fail
  refine (W0.out _).mono ?_
  rintro e_ v_ ⟨rfl, rfl⟩
  cases b0
  case false =>
    obtain rfl : r = 2 := HRR.out.symm.trans (by first | rfl | simp [unI])
    go_wp2_with fail
    go_ret
    exact ⟨rfl, HB.out⟩
  go_wp2_with fail
  refine (W1.out _).mono ?_
  rintro e_ v_ ⟨rfl, rfl⟩
  cases b1
  case false =>
    obtain rfl : r = 2 := HRR.out.symm.trans (by first | rfl | simp [unI])
    go_wp2_with fail
    go_ret
    exact ⟨rfl, HB.out⟩
  obtain rfl : r = 0 := HRR.out.symm.trans rfl
  go_wp2_with fail
  go_ret
  exact ⟨rfl, HB.out⟩
set_option maxHeartbeats 4000000 in
set_option maxRecDepth 100000 in
theorem beamLarger_walk (a b c d : Int) (w : World) :
    Calls Try.prog 6 #[.agg #[.int .i64 a, .int .i64 b], .agg #[.int .i64 c, .int .i64 d]] w fun e w' => e = .returned (.bool true) ∧ Below w.heap.size w w' := by
  have HL1 := hide (fun W => Larger_any a b c d W)
  have HL2 := hide (fun W => Larger_any c d a b W)
  have HS1 := hide (fun W => SquareErr_any a b W)
  have HS2 := hide (fun W => SquareErr_any c d W)
  have HZ := hide (lgE_zero (a := a) (b := b) (c := c) (d := d))
  have HRL := hide (fun W h1 h2 h3 h4 => largerR_any a b c d W h1 h2 h3 h4)
  have e1 : lgE a b c d = unI (sqIn a b && sqIn c d) 2 := rfl
  have e2 : lgE c d a b = unI (sqIn c d && sqIn a b) 2 := rfl
  have e3 : lgR a b c d = if lgE a b c d = 0 then compI (a - c) (d - b) else 0 := rfl
  have e4 : lgR c d a b = if lgE c d a b = 0 then compI (c - a) (b - d) else 0 := rfl
  have e5 : compI (c - a) (b - d) = -compI (a - c) (d - b) := by rw [← compI_negB, Int.neg_sub, Int.neg_sub]
  have e6 : refC (a - c) (b - d) = compI (a - c) (d - b) := by rw [refC_comp, Int.neg_sub]
  have e7 := refC_leB (a - c) (b - d)
  rw [e6] at e7
  rw [e5] at e4
  obtain ⟨k, hk⟩ : ∃ z, compI (a - c) (d - b) = z := ⟨_, rfl⟩
  rw [hk] at e3 e4 e6 e7
  simp only [e6] at HRL
  obtain ⟨s1, hs1⟩ : ∃ z, sqIn a b = z := ⟨_, rfl⟩
  obtain ⟨s2, hs2⟩ : ∃ z, sqIn c d = z := ⟨_, rfl⟩
  rw [hs1, hs2] at e1 e2
  simp only [hs1, hs2] at HS1 HS2
  have q1 : IntKind.i64.wrap (-k) = -k := IntWalk.i64_in _ (by omega)
  have q2 : wrap64 (-k) = -k := by unfold wrap64; omega
  clear e5 e6 hk hs1 hs2
  cases s1
  case false =>
    rw [show unI (false && s2) 2 = 2 from rfl] at e1
    rw [show unI (s2 && false) 2 = 2 by cases s2 <;> rfl] at e2
    rw [e1, if_neg (by decide)] at e3
    rw [e2, if_neg (by decide)] at e4
    simp only [e1, e2, e3, e4] at HL1 HL2
    clear e1 e2 e3 e4 e7 q1 q2 HRL HZ
    go_enter Try.func6, Try.ntmps6
    go_upto_region 1 with fail
    obtain ⟨w_1, hw_1⟩ : ∃ q : World, q = ((w.alloc (.cells #[.int .i64 a, .int .i64 b] 45)).alloc (.cells #[.int .i64 c, .int .i64 d] 45)) := ⟨_, rfl⟩
    try rw [← hw_1]
    have HX0 := hide (show Box w_1 (w.heap.size) 45 #[.int .i64 a, .int .i64 b] by rw [hw_1]; exact (Box.made rfl).alloc _)
    have HX1 := hide (show Box w_1 (w.heap.size + 1) 45 #[.int .i64 c, .int .i64 d] by rw [hw_1]; exact Box.made (by simp))
    have HB := hide (show Below w.heap.size w w_1 by rw [hw_1]; (repeat (first | (with_reducible exact Below.refl _ _) | (with_reducible refine Go.below_drewN ?_ _) | (with_reducible refine Below.drew ?_) | (with_reducible refine Below.alloc ?_ (by first | exact Nat.le_refl _ | (simp; done) | (simp; omega) | omega) _) | (with_reducible refine Below.setCell ?_ (by first | exact Nat.le_refl _ | (simp; done) | (simp; omega) | omega) _))))
    clear hw_1
    go_wp2_with fail
    refine (awake_any _).mono ?_
    rintro e_ w_2 ⟨rfl, hb_2⟩
    replace HX0 := hide (HX0.out.below hb_2)
    replace HX1 := hide (HX1.out.below hb_2)
    replace HB := hide (HB.out.trans (hb_2.mono HB.out.size))
    clear hb_2
    obtain ⟨x0, x1, -, -, hlx⟩ := HX0.out.c2
    obtain ⟨y0, y1, -, -, hly⟩ := HX1.out.c2
    go_wp2_with fail
    refine (HL1.out _).mono ?_
    rintro e_ w_3 ⟨rfl, hb_3⟩
    replace HX0 := hide (HX0.out.below hb_3)
    replace HX1 := hide (HX1.out.below hb_3)
    replace HB := hide (HB.out.trans (hb_3.mono HB.out.size))
    clear hb_3
    clear x0 x1 hlx y0 y1 hly
    obtain ⟨x0, x1, -, -, hlx⟩ := HX0.out.c2
    obtain ⟨y0, y1, -, -, hly⟩ := HX1.out.c2
    go_wp2_with fail
    refine (HL2.out _).mono ?_
    rintro e_ w_4 ⟨rfl, hb_4⟩
    replace HX0 := hide (HX0.out.below hb_4)
    replace HX1 := hide (HX1.out.below hb_4)
    replace HB := hide (HB.out.trans (hb_4.mono HB.out.size))
    clear hb_4
    clear x0 x1 hlx y0 y1 hly
    obtain ⟨x0, x1, -, -, hlx⟩ := HX0.out.c2
    obtain ⟨y0, y1, -, -, hly⟩ := HX1.out.c2
    go_wp2_with fail
    refine (HS1.out _).mono ?_
    rintro e_ w_5 ⟨rfl, hb_5⟩
    replace HX0 := hide (HX0.out.below hb_5)
    replace HX1 := hide (HX1.out.below hb_5)
    replace HB := hide (HB.out.trans (hb_5.mono HB.out.size))
    clear hb_5
    clear x0 x1 hlx y0 y1 hly
    obtain ⟨x0, x1, -, -, hlx⟩ := HX0.out.c2
    obtain ⟨y0, y1, -, -, hly⟩ := HX1.out.c2
    go_wp2_with fail
    go_ret
    exact ⟨rfl, HB.out⟩
  cases s2
  case false =>
    rw [show unI (true && false) 2 = 2 from rfl] at e1
    rw [show unI (false && true) 2 = 2 from rfl] at e2
    rw [e1, if_neg (by decide)] at e3
    rw [e2, if_neg (by decide)] at e4
    simp only [e1, e2, e3, e4] at HL1 HL2
    clear e1 e2 e3 e4 e7 q1 q2 HRL HZ
    go_enter Try.func6, Try.ntmps6
    go_upto_region 1 with fail
    obtain ⟨w_1, hw_1⟩ : ∃ q : World, q = ((w.alloc (.cells #[.int .i64 a, .int .i64 b] 45)).alloc (.cells #[.int .i64 c, .int .i64 d] 45)) := ⟨_, rfl⟩
    try rw [← hw_1]
    have HX0 := hide (show Box w_1 (w.heap.size) 45 #[.int .i64 a, .int .i64 b] by rw [hw_1]; exact (Box.made rfl).alloc _)
    have HX1 := hide (show Box w_1 (w.heap.size + 1) 45 #[.int .i64 c, .int .i64 d] by rw [hw_1]; exact Box.made (by simp))
    have HB := hide (show Below w.heap.size w w_1 by rw [hw_1]; (repeat (first | (with_reducible exact Below.refl _ _) | (with_reducible refine Go.below_drewN ?_ _) | (with_reducible refine Below.drew ?_) | (with_reducible refine Below.alloc ?_ (by first | exact Nat.le_refl _ | (simp; done) | (simp; omega) | omega) _) | (with_reducible refine Below.setCell ?_ (by first | exact Nat.le_refl _ | (simp; done) | (simp; omega) | omega) _))))
    clear hw_1
    go_wp2_with fail
    refine (awake_any _).mono ?_
    rintro e_ w_2 ⟨rfl, hb_2⟩
    replace HX0 := hide (HX0.out.below hb_2)
    replace HX1 := hide (HX1.out.below hb_2)
    replace HB := hide (HB.out.trans (hb_2.mono HB.out.size))
    clear hb_2
    obtain ⟨x0, x1, -, -, hlx⟩ := HX0.out.c2
    obtain ⟨y0, y1, -, -, hly⟩ := HX1.out.c2
    go_wp2_with fail
    refine (HL1.out _).mono ?_
    rintro e_ w_3 ⟨rfl, hb_3⟩
    replace HX0 := hide (HX0.out.below hb_3)
    replace HX1 := hide (HX1.out.below hb_3)
    replace HB := hide (HB.out.trans (hb_3.mono HB.out.size))
    clear hb_3
    clear x0 x1 hlx y0 y1 hly
    obtain ⟨x0, x1, -, -, hlx⟩ := HX0.out.c2
    obtain ⟨y0, y1, -, -, hly⟩ := HX1.out.c2
    go_wp2_with fail
    refine (HL2.out _).mono ?_
    rintro e_ w_4 ⟨rfl, hb_4⟩
    replace HX0 := hide (HX0.out.below hb_4)
    replace HX1 := hide (HX1.out.below hb_4)
    replace HB := hide (HB.out.trans (hb_4.mono HB.out.size))
    clear hb_4
    clear x0 x1 hlx y0 y1 hly
    obtain ⟨x0, x1, -, -, hlx⟩ := HX0.out.c2
    obtain ⟨y0, y1, -, -, hly⟩ := HX1.out.c2
    go_wp2_with fail
    refine (HS1.out _).mono ?_
    rintro e_ w_5 ⟨rfl, hb_5⟩
    replace HX0 := hide (HX0.out.below hb_5)
    replace HX1 := hide (HX1.out.below hb_5)
    replace HB := hide (HB.out.trans (hb_5.mono HB.out.size))
    clear hb_5
    clear x0 x1 hlx y0 y1 hly
    obtain ⟨x0, x1, -, -, hlx⟩ := HX0.out.c2
    obtain ⟨y0, y1, -, -, hly⟩ := HX1.out.c2
    go_wp2_with fail
    refine (HS2.out _).mono ?_
    rintro e_ w_6 ⟨rfl, hb_6⟩
    replace HX0 := hide (HX0.out.below hb_6)
    replace HX1 := hide (HX1.out.below hb_6)
    replace HB := hide (HB.out.trans (hb_6.mono HB.out.size))
    clear hb_6
    clear x0 x1 hlx y0 y1 hly
    go_wp2_with fail
    go_ret
    exact ⟨rfl, HB.out⟩
  rw [show unI (true && true) 2 = 0 from rfl] at e1 e2
  rw [e1, if_pos rfl] at e3
  rw [e2, if_pos rfl] at e4
  obtain ⟨⟨h1, h2⟩, h3, h4⟩ := HZ.out e1
  have HRR := hide (fun W => HRL.out W (by omega) (by omega) (by omega) (by omega))
  simp only [e1, e2, e3, e4] at HL1 HL2
  clear e1 e2 e3 e4 e7 HRL HZ h1 h2 h3 h4
  go_enter Try.func6, Try.ntmps6
  go_upto_region 1 with fail
  obtain ⟨w_1, hw_1⟩ : ∃ q : World, q = ((w.alloc (.cells #[.int .i64 a, .int .i64 b] 45)).alloc (.cells #[.int .i64 c, .int .i64 d] 45)) := ⟨_, rfl⟩
  try rw [← hw_1]
  have HX0 := hide (show Box w_1 (w.heap.size) 45 #[.int .i64 a, .int .i64 b] by rw [hw_1]; exact (Box.made rfl).alloc _)
  have HX1 := hide (show Box w_1 (w.heap.size + 1) 45 #[.int .i64 c, .int .i64 d] by rw [hw_1]; exact Box.made (by simp))
  have HB := hide (show Below w.heap.size w w_1 by rw [hw_1]; (repeat (first | (with_reducible exact Below.refl _ _) | (with_reducible refine Go.below_drewN ?_ _) | (with_reducible refine Below.drew ?_) | (with_reducible refine Below.alloc ?_ (by first | exact Nat.le_refl _ | (simp; done) | (simp; omega) | omega) _) | (with_reducible refine Below.setCell ?_ (by first | exact Nat.le_refl _ | (simp; done) | (simp; omega) | omega) _))))
  clear hw_1
  go_wp2_with fail
  refine (awake_any _).mono ?_
  rintro e_ w_2 ⟨rfl, hb_2⟩
  replace HX0 := hide (HX0.out.below hb_2)
  replace HX1 := hide (HX1.out.below hb_2)
  replace HB := hide (HB.out.trans (hb_2.mono HB.out.size))
  clear hb_2
  obtain ⟨x0, x1, -, -, hlx⟩ := HX0.out.c2
  obtain ⟨y0, y1, -, -, hly⟩ := HX1.out.c2
  go_wp2_with fail
  refine (HL1.out _).mono ?_
  rintro e_ w_3 ⟨rfl, hb_3⟩
  replace HX0 := hide (HX0.out.below hb_3)
  replace HX1 := hide (HX1.out.below hb_3)
  replace HB := hide (HB.out.trans (hb_3.mono HB.out.size))
  clear hb_3
  clear x0 x1 hlx y0 y1 hly
  obtain ⟨x0, x1, -, -, hlx⟩ := HX0.out.c2
  obtain ⟨y0, y1, -, -, hly⟩ := HX1.out.c2
  go_wp2_with fail
  refine (HL2.out _).mono ?_
  rintro e_ w_4 ⟨rfl, hb_4⟩
  replace HX0 := hide (HX0.out.below hb_4)
  replace HX1 := hide (HX1.out.below hb_4)
  replace HB := hide (HB.out.trans (hb_4.mono HB.out.size))
  clear hb_4
  clear x0 x1 hlx y0 y1 hly
  obtain ⟨x0, x1, -, -, hlx⟩ := HX0.out.c2
  obtain ⟨y0, y1, -, -, hly⟩ := HX1.out.c2
  go_wp2_with fail
  refine (HS1.out _).mono ?_
  rintro e_ w_5 ⟨rfl, hb_5⟩
  replace HX0 := hide (HX0.out.below hb_5)
  replace HX1 := hide (HX1.out.below hb_5)
  replace HB := hide (HB.out.trans (hb_5.mono HB.out.size))
  clear hb_5
  clear x0 x1 hlx y0 y1 hly
  obtain ⟨x0, x1, -, -, hlx⟩ := HX0.out.c2
  obtain ⟨y0, y1, -, -, hly⟩ := HX1.out.c2
  go_wp2_with fail
  refine (HS2.out _).mono ?_
  rintro e_ w_6 ⟨rfl, hb_6⟩
  replace HX0 := hide (HX0.out.below hb_6)
  replace HX1 := hide (HX1.out.below hb_6)
  replace HB := hide (HB.out.trans (hb_6.mono HB.out.size))
  clear hb_6
  clear x0 x1 hlx y0 y1 hly
  obtain ⟨x0, x1, -, -, hlx⟩ := HX0.out.c2
  obtain ⟨y0, y1, -, -, hly⟩ := HX1.out.c2
  go_wp2_with fail
  refine (HRR.out _).mono ?_
  rintro e_ w_7 ⟨rfl, hb_7⟩
  replace HX0 := hide (HX0.out.below hb_7)
  replace HX1 := hide (HX1.out.below hb_7)
  replace HB := hide (HB.out.trans (hb_7.mono HB.out.size))
  clear hb_7
  clear x0 x1 hlx y0 y1 hly
  go_wp2_with fail
  go_ret
  exact ⟨by first | rfl | simp, HB.out⟩
end Go.Proofs.Ytejhakkfgfahaaa
