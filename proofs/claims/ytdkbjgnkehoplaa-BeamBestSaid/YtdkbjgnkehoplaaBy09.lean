/- Lemmas: E8, E9, E13. -/
import Derived.Laws.MakeOwn
import Derived.Test.YtdkbjgnkehoplaaBy05
import Derived.Test.YtdkbjgnkehoplaaBy08
set_option linter.unusedVariables false
set_option linter.unusedSimpArgs false
/- usedAt, sort.Search, levelOf and panelError of the code. -/
namespace Go.Proofs.Ytdkbjgnkehoplaa
open Go.RowKit Go.Great
set_option maxHeartbeats 2000000 in
set_option maxRecDepth 100000 in
theorem usedAt_any (L : Int) (A : Option Addr) (n c : Nat) (X : Nat → Int) (w : World) (hn : n ≤ 100) (hL : 0 ≤ L ∧ L ≤ 1000001) (hX : ∀ j, j < n → 0 ≤ X j ∧ X j ≤ 1000000) (hI : IntsAt w 0 A n X) :
    Calls Try.prog 107 #[.int .i64 L, .slice A n c] w fun e w' => e = .returned (.int .i64 (usN L X n)) ∧ w = w' := by
  have HI := hide hI
  have HX := hide hX
  have HU := hide (fun k (hk : k ≤ n) => usN_bounds (X := X) (M := 1000000) hL.1 k fun j hj => hX j (by omega))
  clear hI hX
  go_enter Try.func107, Try.ntmps107
  go_wp2_with fail
  go_loopw [5, 10] (fun s i wr => ∃ k : Nat, k ≤ n ∧ i = .int .i64 (k : Int) ∧ s = .int .i64 (usN L X k) ∧ w = wr) (fun _ i _ => n - (Go.RowKit.intOf i).toNat)
  case atStart => exact ⟨0, Nat.zero_le _, rfl, rfl, rfl⟩
  case round =>
    obtain ⟨k, hk, rfl, rfl, rfl⟩ := hrel
    by_cases hlt : k < n
    · have hltz : (k : Int) < (n : Int) := by omega
      obtain ⟨b, o, rfl, -, hb, hcell⟩ := HI.out k hlt
      have hx := HX.out k hlt
      have hu := HU.out k (by omega)
      have HS := hide (show usN L X (k + 1) = usN L X k + min (X k) L from rfl)
      obtain ⟨x, hxx⟩ : ∃ z, X k = z := ⟨_, rfl⟩
      obtain ⟨u, huu⟩ : ∃ z, usN L X k = z := ⟨_, rfl⟩
      rw [hxx] at hcell hx HS
      rw [huu] at hu HS
      simp only [huu]
      have hku : u ≤ 100000000 := by omega
      clear hxx huu
      obtain ⟨v, hv⟩ : ∃ v, usN L X (k + 1) = v := ⟨_, rfl⟩
      have q1 : IntKind.i64.wrap (u + min x L) = v := by rw [← hv, HS.out]; exact IntWalk.i64_in _ (by omega)
      have q2 : wrap64 (u + min x L) = v := by rw [← hv, HS.out]; unfold wrap64; omega
      have HV := hide hv
      clear hu hx hv
      go_wp2_with fail
      go_roundw
      case rel => exact ⟨k + 1, by omega, by go_num, by rw [HV.out], by first | rfl | trivial⟩
      case measure => simp [Go.RowKit.intOf]; omega
    · obtain rfl : k = n := by omega
      go_wp2_with fail
      go_ret
      exact ⟨rfl, rfl⟩
set_option maxHeartbeats 4000000 in
set_option maxRecDepth 100000 in
theorem search_any (g : Nat) (lb : Array Value) (eg : ∀ args w, (callFunc g args).run Try.prog w = .ok (.enter g args) w) (p : Nat → Bool) (N : Nat) (w : World) (hN : N ≤ 100000000)
    (hp : ∀ (i : Nat) W, i < N → Below w.heap.size w W → Calls Try.prog g (#[.int .i64 (i : Int)] ++ lb) W fun e w' => e = .returned (.bool (p i)) ∧ ∃ q, w' = W.drewN q) :
    Calls Try.prog 136 #[.int .i64 (N : Int), .func (.func g) #[] lb] w fun e w' => ∃ r : Nat, e = .returned (.int .i64 (r : Int)) ∧ IsLevel p N r ∧ ∃ q, w' = w.drewN q := by
  have HP := hide (fun (i q : Nat) (hi : i < N) => hp i (w.drewN q) hi (Go.below_drewN (Below.refl _ _) q))
  clear hp
  go_enter Try.func136, Try.ntmps136
  go_wp2_with fail
  go_loopg [5, 6] N (fun gg a b wr => ∃ i j q : Nat, i ≤ j ∧ j ≤ N ∧ j - i ≤ gg ∧ a = .int .i64 (i : Int) ∧ b = .int .i64 (j : Int) ∧ Hid (j = N ∨ p j = true) ∧ Hid (i = 0 ∨ p (i - 1) = false) ∧ wr = w.drewN q)
  case atStart => exact ⟨0, N, 0, Nat.zero_le _, Nat.le_refl _, by omega, rfl, rfl, hide (.inl rfl), hide (.inl rfl), rfl⟩
  case round =>
    obtain ⟨i, j, q, hij, hjN, hg, rfl, rfl, HJ, HI, rfl⟩ := hrel
    by_cases hlt : i < j
    · have hltz : (i : Int) < (j : Int) := by omega
      obtain ⟨h, hh⟩ : ∃ h : Nat, (i + j) / 2 = h := ⟨_, rfl⟩
      have h1 : i ≤ h := by omega
      have h2 : h < j := by omega
      have q1 : IntKind.i64.wrap ((i : Int) + (j : Int)) = ((i + j : Nat) : Int) := by rw [IntWalk.i64_in _ (by omega)]; omega
      have HC := hide (HP.out h q (by omega))
      obtain ⟨v, hv⟩ : ∃ z, p h = z := ⟨_, rfl⟩
      rw [hv] at HC
      have HV := hide hv
      have hz : ((i : Int) + (j : Int)) / 2 = (h : Int) := by omega
      clear hv hh
      go_wp2_with fail
      refine HC.out.mono ?_
      rintro e w' ⟨rfl, q', rfl⟩
      clear hz q1
      cases v
      · go_wp2_with fail
        go_roundg (j - (h + 1))
        case measure => omega
        case rel => exact ⟨h + 1, j, _, by omega, hjN, by omega, by go_num, rfl, HJ, hide (.inr (by rw [Nat.add_sub_cancel]; exact HV.out)), by first | rfl | exact World.drewN_drewN _ _ _⟩
      · go_wp2_with fail
        go_roundg (h - i)
        case measure => omega
        case rel => exact ⟨i, h, _, h1, by omega, by omega, rfl, rfl, hide (.inr HV.out), HI, by first | rfl | exact World.drewN_drewN _ _ _⟩
    · obtain rfl : i = j := by omega
      go_wp2_with fail
      go_ret
      exact ⟨i, rfl, ⟨hjN, HJ.out, HI.out⟩, q, rfl⟩
set_option maxHeartbeats 4000000 in
set_option maxRecDepth 100000 in
theorem levelOf1_any (P M : Int) (A : Option Addr) (n c b1 b2 i : Nat) (X : Nat → Int) (w : World) (hn : n ≤ 100) (hi : i < 1000000) (hX : ∀ j, j < n → 0 ≤ X j ∧ X j ≤ 1000000) (hI : IntsAt w 0 A n X) (h1 : w.cell? ⟨b1, 0, none⟩ = some (.slice A n c)) (h2 : w.cell? ⟨b2, 0, none⟩ = some (.int .i64 P)) :
    Calls Try.prog 137 #[.int .i64 (i : Int), .pointer (some ⟨b1, 0, none⟩), .pointer (some ⟨b2, 0, none⟩)] w fun e w' => e = .returned (.bool (ovB P X n i)) ∧ ∃ q, w' = w.drewN q := by
  have HU := hide (fun W (h : IntsAt W 0 A n X) => usedAt_any ((i : Int) + 1) A n c X W hn (by omega) hX h)
  have HI := hide hI
  have q1 : IntKind.i64.wrap ((i : Int) + 1) = (i : Int) + 1 := IntWalk.i64_in _ (by omega)
  have HO := hide (show ovB P X n i = decide (P < usN ((i : Int) + 1) X n) from rfl)
  obtain ⟨u, hu⟩ : ∃ z, usN ((i : Int) + 1) X n = z := ⟨_, rfl⟩
  rw [hu] at HU HO
  clear hI hX hu
  go_enter Try.func137, Try.ntmps137
  go_wp2_with fail
  go_quiet ((go_at_call 107; exact Calls.quiet_of_same ((HU.out _ (by exact HI.out)).mono fun _ _ h => ⟨h.1, h.2.symm⟩)))
  go_wp2_with fail
  go_ret
  exact ⟨by rw [HO.out]; rfl, _, rfl⟩
set_option maxHeartbeats 4000000 in
set_option maxRecDepth 100000 in
theorem levelOf_any (P : Int) (N : Nat) (A : Option Addr) (n c : Nat) (X : Nat → Int) (w : World) (hn : n ≤ 100) (hN : N ≤ 1000000) (hX : ∀ j, j < n → 0 ≤ X j ∧ X j ≤ 1000000) (hI : IntsAt w 0 A n X) :
    Calls Try.prog 106 #[.agg #[.int .i64 P, .int .i64 (N : Int)], .slice A n c] w fun e w' => e = .returned (.int .i64 (lvN P X n N : Int)) ∧ Below w.heap.size w w' := by
  have HX := hide hX
  have HI := hide hI
  clear hI hX
  go_enter Try.func106, Try.ntmps106
  go_upto_region 1 with fail
  obtain ⟨W, hW⟩ : ∃ y : World, y = (w.alloc (.cells #[.int .i64 P, .int .i64 (N : Int)] 97)).alloc (.cells #[.slice A n c] 27) := ⟨_, rfl⟩
  rw [← hW]
  have b2 : Box W w.heap.size 97 #[.int .i64 P, .int .i64 (N : Int)] := by rw [hW]; exact (Box.made rfl).alloc _
  have b3 : Box W (w.heap.size + 1) 27 #[.slice A n c] := by rw [hW]; exact Box.made (by simp)
  have hB : Below w.heap.size w W := by rw [hW]; (repeat (first | (with_reducible exact Below.refl _ _) | (with_reducible refine Go.below_drewN ?_ _) | (with_reducible refine Below.drew ?_) | (with_reducible refine Below.alloc ?_ (by first | exact Nat.le_refl _ | (simp; done) | (simp; omega) | omega) _) | (with_reducible refine Below.setCell ?_ (by first | exact Nat.le_refl _ | (simp; done) | (simp; omega) | omega) _)))
  have HS := hide (search_any 137 #[.pointer (some ⟨w.heap.size + 1, 0, none⟩), .pointer (some ⟨w.heap.size, 0, none⟩)] (enters_of Try.func137 (by kernel_rfl) rfl) (ovB P X n) N W (by omega) (fun i W' hi hb => levelOf1_any P (N : Int) A n c (w.heap.size + 1) w.heap.size i X W' hn (by omega) HX.out ((HI.out.below hB).below hb) ((b3.below hb).at_ 0) ((b2.below hb).at_ 0)))
  clear hW
  obtain ⟨x0, x1, -, -, hlx⟩ := b2.c2
  go_wp2_with fail
  refine HS.out.mono ?_
  rintro e w1 ⟨r, rfl, hr, q, rfl⟩
  have e0 := level_is hr
  subst e0
  clear x0 x1 hlx HS hr
  go_wp2_with fail
  go_ret
  exact ⟨rfl, Go.below_drewN hB _⟩
set_option maxHeartbeats 4000000 in
set_option maxRecDepth 100000 in
theorem panelError_any (P M : Int) (w : World) :
    Calls Try.prog 105 #[.agg #[.int .i64 P, .int .i64 M]] w fun e w' => e = .returned (.int .i64 (paE P M)) ∧ Below w.heap.size w w' := by
  have HE := hide (show firstE [unI (withinB P 0 1000000) 2, unI (withinB M 0 1000000) 2] = paE P M from rfl)
  generalize paE P M = V at *
  go_enter Try.func105, Try.ntmps105
  go_upto_region 1 with fail
  obtain ⟨w_1, hw_1⟩ : ∃ q : World, q = (w.alloc (.cells #[.int .i64 P, .int .i64 M] 97)) := ⟨_, rfl⟩
  try rw [← hw_1]
  have HX0 := hide (show Box w_1 (w.heap.size) 97 #[.int .i64 P, .int .i64 M] by rw [hw_1]; exact Box.made rfl)
  have HB := hide (show Below w.heap.size w w_1 by rw [hw_1]; (repeat (first | (with_reducible exact Below.refl _ _) | (with_reducible refine Go.below_drewN ?_ _) | (with_reducible refine Below.drew ?_) | (with_reducible refine Below.alloc ?_ (by first | exact Nat.le_refl _ | (simp; done) | (simp; omega) | omega) _) | (with_reducible refine Below.setCell ?_ (by first | exact Nat.le_refl _ | (simp; done) | (simp; omega) | omega) _))))
  clear hw_1
  refine wp_region_held_drew (S := fun w' => w'.cell? ⟨w.heap.size, 0, none⟩ = some (.int .i64 P) ∧ w'.cell? ⟨w.heap.size, 1, none⟩ = some (.int .i64 M)) (by kernel_rfl) ⟨HX0.out.c2.1, HX0.out.c2.2.1⟩ (fun hHeld => ?_)
  obtain ⟨w_2, hw_2⟩ : ∃ q : World, q = w_1.drew := ⟨_, rfl⟩
  rw [← hw_2] at hHeld ⊢
  have hc_2 : Below w_1.heap.size w_1 w_2 := by rw [hw_2]; exact (Below.refl _ _).drew
  clear hw_2
  replace HX0 := hide (HX0.out.below hc_2)
  replace HB := hide (HB.out.trans (hc_2.mono HB.out.size))
  clear hc_2
  refine wpAnyH_take (i := 0) (oi := ⟨some 3, _, _, _, _, _⟩) (v := ?_) rfl (by kernel_rfl) (by kernel_rfl) (by kernel_rfl) (fun _ _ _ h => h) (Or.inl ⟨by rfl, ?_⟩) (by assumption) ?_
  rotate_left
  · (intro w' hSw; (try dsimp only at hSw); go_simp <;> (with_reducible rfl))
  try simp only [Act.put, List.setIfInBounds_toArray, List.set_cons_zero, List.set_cons_succ]
  refine wpAnyH_take (i := 1) (oi := ⟨some 4, _, _, _, _, _⟩) (v := ?_) rfl (by kernel_rfl) (by kernel_rfl) (by kernel_rfl) (fun _ _ _ h => h) (Or.inl ⟨by rfl, ?_⟩) (by assumption) ?_
  rotate_left
  · (intro w' hSw; (try dsimp only at hSw); go_simp <;> (with_reducible rfl))
  try simp only [Act.put, List.setIfInBounds_toArray, List.set_cons_zero, List.set_cons_succ]
  refine wpAnyH_take (i := 4) (oi := ⟨some 7, _, _, _, _, _⟩) (v := ?_) rfl (by kernel_rfl) (by kernel_rfl) (by kernel_rfl) (fun _ _ _ h => h) (Or.inl ⟨by rfl, ?_⟩) (by assumption) ?_
  rotate_left
  · (intro w' hSw; (try dsimp only at hSw); go_simp <;> (with_reducible rfl))
  try simp only [Act.put, List.setIfInBounds_toArray, List.set_cons_zero, List.set_cons_succ]
  refine wpAnyH_take (i := 5) (oi := ⟨some 8, _, _, _, _, _⟩) (v := ?_) rfl (by kernel_rfl) (by kernel_rfl) (by kernel_rfl) (fun _ _ _ h => h) (Or.inl ⟨by rfl, ?_⟩) (by assumption) ?_
  rotate_left
  · (intro w' hSw; (try dsimp only at hSw); go_simp <;> (with_reducible rfl))
  try simp only [Act.put, List.setIfInBounds_toArray, List.set_cons_zero, List.set_cons_succ]
  refine wpAnyH_ready (rs := [2]) (by kernel_rfl) (by simp) ?_
  refine AllReadyH.cons (o := ⟨some 5, _, _, _, _, _⟩) rfl (fun K' hK => ?_) AllReadyH.nil
  go_simp
  go_at_call 99
  refine (isWithin_any _ _ _ _).mono ?_
  rintro e_ v_ ⟨rfl, rfl⟩
  go_wp2_with fail
  refine hK.out _ _ ⟨HX0.out.c2.1, HX0.out.c2.2.1⟩ (fun hHeld => ?_)
  clear hK K'
  try simp only [Act.put, List.setIfInBounds_toArray, List.set_cons_zero, List.set_cons_succ]
  refine wpAnyH_ready (rs := [3]) (by kernel_rfl) (by simp) ?_
  refine AllReadyH.cons (o := ⟨some 6, _, _, _, _, _⟩) rfl (fun K' hK => ?_) AllReadyH.nil
  go_simp
  go_at_call 70
  refine (unless_any _ _ _).mono ?_
  rintro e_ v_ ⟨rfl, rfl⟩
  go_wp2_with fail
  refine hK.out _ _ ⟨HX0.out.c2.1, HX0.out.c2.2.1⟩ (fun hHeld => ?_)
  clear hK K'
  try simp only [Act.put, List.setIfInBounds_toArray, List.set_cons_zero, List.set_cons_succ]
  refine wpAnyH_ready (rs := [6]) (by kernel_rfl) (by simp) ?_
  refine AllReadyH.cons (o := ⟨some 9, _, _, _, _, _⟩) rfl (fun K' hK => ?_) AllReadyH.nil
  go_simp
  go_at_call 99
  refine (isWithin_any _ _ _ _).mono ?_
  rintro e_ v_ ⟨rfl, rfl⟩
  go_wp2_with fail
  refine hK.out _ _ ⟨HX0.out.c2.1, HX0.out.c2.2.1⟩ (fun hHeld => ?_)
  clear hK K'
  try simp only [Act.put, List.setIfInBounds_toArray, List.set_cons_zero, List.set_cons_succ]
  refine wpAnyH_ready (rs := [7]) (by kernel_rfl) (by simp) ?_
  refine AllReadyH.cons (o := ⟨some 10, _, _, _, _, _⟩) rfl (fun K' hK => ?_) AllReadyH.nil
  go_simp
  go_at_call 70
  refine (unless_any _ _ _).mono ?_
  rintro e_ v_ ⟨rfl, rfl⟩
  go_wp2_with fail
  refine hK.out _ _ ⟨HX0.out.c2.1, HX0.out.c2.2.1⟩ (fun hHeld => ?_)
  clear hK K'
  try simp only [Act.put, List.setIfInBounds_toArray, List.set_cons_zero, List.set_cons_succ]
  refine wpAnyH_ready (rs := [8]) (by kernel_rfl) (by simp) ?_
  refine AllReadyH.cons (o := ⟨some 11, _, _, _, _, _⟩) rfl (fun K' hK => ?_) AllReadyH.nil
  go_simp
  obtain ⟨g2, hg2⟩ : ∃ q, w_2.heap.size = q := ⟨_, rfl⟩
  obtain ⟨w_3, hw_3⟩ : ∃ q : World, q = w_2.alloc (.cells #[.int .i64 (unI (withinB P 0 1000000) 2), .int .i64 (unI (withinB M 0 1000000) 2)] 28) := ⟨_, rfl⟩
  try rw [← hw_3]
  have HE2 := hide (show Box w_3 g2 28 #[.int .i64 (unI (withinB P 0 1000000) 2), .int .i64 (unI (withinB M 0 1000000) 2)] by rw [hw_3]; exact Box.made hg2.symm)
  have hc_3 : Below w_2.heap.size w_2 w_3 := by rw [hw_3]; exact (Below.refl _ _).alloc (Nat.le_refl _) _
  clear hw_3
  replace HX0 := hide (HX0.out.below hc_3)
  replace HB := hide (HB.out.trans (hc_3.mono HB.out.size))
  clear hc_3
  try simp only [hg2]
  clear hg2
  refine hK.out _ _ ⟨HX0.out.c2.1, HX0.out.c2.2.1⟩ (fun hHeld => ?_)
  clear hK K'
  try simp only [Act.put, List.setIfInBounds_toArray, List.set_cons_zero, List.set_cons_succ]
  refine wpAnyH_ready (rs := [9]) (by kernel_rfl) (by simp) ?_
  refine AllReadyH.cons (o := ⟨some 12, _, _, _, _, _⟩) rfl (fun K' hK => ?_) AllReadyH.nil
  go_simp
  go_at_call 67
  refine (firstError_box g2 2 [unI (withinB P 0 1000000) 2, unI (withinB M 0 1000000) 2] _ _ rfl (by decide) HE2.out).mono ?_
  rintro e_ v_ ⟨rfl, rfl⟩
  go_wp2_with fail
  refine hK.out _ _ ⟨HX0.out.c2.1, HX0.out.c2.2.1⟩ (fun hHeld => ?_)
  clear hK K'
  try simp only [Act.put, List.setIfInBounds_toArray, List.set_cons_zero, List.set_cons_succ]
  refine wpAnyH_take (i := 10) (oi := ⟨some 2, _, _, _, _, _⟩) (v := ?_) rfl (by kernel_rfl) (by kernel_rfl) (by kernel_rfl) (fun _ _ _ h => h) (Or.inl ⟨by rfl, ?_⟩) (by assumption) ?_
  rotate_left
  · (intro w' hSw; (try dsimp only at hSw); go_simp <;> (with_reducible rfl))
  try simp only [Act.put, List.setIfInBounds_toArray, List.set_cons_zero, List.set_cons_succ]
  refine wpAnyH_done (by kernel_rfl) ?_ _
  rw [HE.out]
  go_wp2_with fail
  go_ret
  exact ⟨rfl, HB.out⟩
end Go.Proofs.Ytdkbjgnkehoplaa
/- SplitOf of the code. -/
namespace Go.Proofs.Ytdkbjgnkehoplaa
open Go.RowKit Go.Great
/-- What each beam gets. -/
def spV (P M : Int) (n : Nat) (X : Nat → Int) : Nat → Int := spF (lvN P X n M.toNat : Int) X (lf0 P M X n (lvN P X n M.toNat : Int))
theorem lf0_bounds {P M : Int} {X : Nat → Int} {n : Nat} (hP : 0 ≤ P) (hX : ∀ j, j < n → 0 ≤ X j) (N : Nat) : 0 ≤ lf0 P M X n (lvN P X n N : Int) ∧ lf0 P M X n (lvN P X n N : Int) ≤ P := by
  have h1 := level_does (P := P) (X := X) (n := n) (N := N) hP hX
  have h2 : ∀ k, k ≤ n → 0 ≤ usN (lvN P X n N : Int) X k := fun k => by
    induction k with
    | zero => intro _; exact Int.le_refl _
    | succ k ih =>
      intro hk
      have h3 := ih (by omega)
      have h4 := hX k (by omega)
      show 0 ≤ usN (lvN P X n N : Int) X k + min (X k) (lvN P X n N : Int)
      omega
  have h5 := h2 n (Nat.le_refl n)
  unfold lf0
  split <;> omega
set_option maxHeartbeats 8000000 in
set_option maxRecDepth 100000 in
theorem SplitOf_any (P M : Int) (A : Option Addr) (n c : Nat) (X : Nat → Int) (w : World) (hn : n ≤ 100000) (hI : IntsAt w 0 A n X) :
    Calls Try.prog 61 #[.agg #[.int .i64 P, .int .i64 M], .slice A n c] w fun e w' => ∃ B m d, e = .returned (.tuple #[.slice B m d, .int .i64 (waE P M n X)]) ∧ OrNone (waE P M n X) n m ∧ m ≤ d ∧ d ≤ 12 ∧ IntsAt w' w.heap.size B m (spV P M n X) ∧ Below w.heap.size w w' := by
  have HE := hide (show firstE [paE P M, unI (decide ((n : Int) ≤ 12)) 8, badE (fun j => inE 0 1000000 (X j)) n] = waE P M n X from rfl)
  have HZ := hide (waE_zero (P := P) (M := M) (n := n) (X := X))
  have HIT := hide (fun b1 b2 W (h : IntsAt W 0 A n X) h1 h2 => itemsError_within 0 1000000 A n c b1 b2 X W hn h h1 h2)
  have HPE := hide (fun W => panelError_any P M W)
  have HI := hide hI
  generalize waE P M n X = V at *
  obtain ⟨r, hr⟩ : ∃ z, paE P M = z := ⟨_, rfl⟩
  obtain ⟨s, hs⟩ : ∃ z, badE (fun j => inE 0 1000000 (X j)) n = z := ⟨_, rfl⟩
  simp only [hr, hs] at HE HIT HPE
  clear hI hr hs
  go_enter Try.func61, Try.ntmps61
  go_upto_region 1 with fail
  obtain ⟨w_1, hw_1⟩ : ∃ q : World, q = (w.alloc (.cells #[.int .i64 P, .int .i64 M] 97)) := ⟨_, rfl⟩
  try rw [← hw_1]
  have HX0 := hide (show Box w_1 (w.heap.size) 97 #[.int .i64 P, .int .i64 M] by rw [hw_1]; exact Box.made rfl)
  have HB := hide (show Below w.heap.size w w_1 by rw [hw_1]; (repeat (first | (with_reducible exact Below.refl _ _) | (with_reducible refine Go.below_drewN ?_ _) | (with_reducible refine Below.drew ?_) | (with_reducible refine Below.alloc ?_ (by first | exact Nat.le_refl _ | (simp; done) | (simp; omega) | omega) _) | (with_reducible refine Below.setCell ?_ (by first | exact Nat.le_refl _ | (simp; done) | (simp; omega) | omega) _))))
  clear hw_1
  obtain ⟨x0, x1, -, -, hlx⟩ := HX0.out.c2
  go_wp2_with fail
  refine (HPE.out _).mono ?_
  rintro e_ w_2 ⟨rfl, hb_2⟩
  replace HX0 := hide (HX0.out.below hb_2)
  replace HB := hide (HB.out.trans (hb_2.mono HB.out.size))
  clear hb_2
  clear x0 x1 hlx HPE
  go_wp2_with (go_at_call 70; refine (unless_any _ _ _).mono ?_; rintro e_ v_ ⟨rfl, rfl⟩)
  refine (within_clo _ _ _).mono ?_
  rintro e_ w_3 ⟨rfl, c1, c2, hb_3⟩
  replace HX0 := hide (HX0.out.below hb_3)
  replace HB := hide (HB.out.trans (hb_3.mono HB.out.size))
  clear hb_3
  go_wp2_with fail
  refine (HIT.out _ _ _ (HI.out.below HB.out) c1 c2).mono ?_
  rintro e_ w_4 ⟨rfl, hb_4⟩
  clear c1 c2 HIT
  replace HX0 := hide (HX0.out.below hb_4)
  replace HB := hide (HB.out.trans (hb_4.mono HB.out.size))
  clear hb_4
  go_wp2_with fail
  refine (firstError_laid [r, unI (decide ((n : Int) ≤ 12)) 8, s] 3 _ _ rfl (by decide)).mono ?_
  rintro e_ w_5 ⟨rfl, hw⟩
  rw [HE.out]
  have hb : Below w_4.heap.size w_4 w_5 := by rw [← hw]; exact (Below.refl _ _).alloc (Nat.le_refl _) _
  clear hw HE
  replace HX0 := hide (HX0.out.below hb)
  replace HB := hide (HB.out.trans (hb.mono HB.out.size))
  clear hb
  by_cases hv : V = 0
  case neg =>
    have tv : (V != 0) = true := by simpa using hv
    have HV := hide hv
    clear hv HZ
    go_wp2_with fail
    go_ret2
    exact ⟨none, 0, 0, rfl, ⟨fun h => absurd h HV.out, fun _ => rfl⟩, Nat.le_refl _, by decide, IntsAt.nil_, HB.out⟩
  obtain ⟨⟨⟨p0, p1⟩, m0, m1⟩, hn12, hX⟩ := HZ.out hv
  have tv : (V != 0) = false := by simpa using hv
  obtain ⟨N, rfl⟩ : ∃ N : Nat, M = (N : Int) := ⟨M.toNat, by omega⟩
  have hN : N ≤ 1000000 := by omega
  have HLV := hide (fun W (h : IntsAt W 0 A n X) => levelOf_any P N A n c X W (by omega) hN hX h)
  have HSV := hide (fun j => (show spV P (N : Int) n X j = spF (lvN P X n N : Int) X (lf0 P (N : Int) X n (lvN P X n N : Int)) j from rfl))
  obtain ⟨l0, l1⟩ := lf0_bounds (M := (N : Int)) p0 (fun j hj => (hX j hj).1) N
  have hlv := lvN_le (P := P) (X := X) (n := n) N
  have HL0 := hide (show lf0 P (N : Int) X n (lvN P X n N : Int) = if (lvN P X n N : Int) < (N : Int) then P - usN (lvN P X n N : Int) X n else 0 from rfl)
  have HUS := hide (fun W (h : IntsAt W 0 A n X) => usedAt_any (lvN P X n N : Int) A n c X W (by omega) (by omega) hX h)
  have hub := (usN_bounds (L := (lvN P X n N : Int)) (X := X) (M := 1000000) (by omega) n hX)
  obtain ⟨L, hL⟩ : ∃ z, lvN P X n N = z := ⟨_, rfl⟩
  simp only [hL] at HLV HSV l0 l1 hlv HL0 HUS hub
  obtain ⟨f, hf⟩ : ∃ z, lf0 P (N : Int) X n (L : Int) = z := ⟨_, rfl⟩
  simp only [hf] at HSV l0 l1 HL0
  obtain ⟨u, hu⟩ : ∃ z, usN (L : Int) X n = z := ⟨_, rfl⟩
  simp only [hu] at HL0 HUS hub
  have hub2 : u ≤ 12000000 := by omega
  have HX := hide hX
  obtain ⟨i0, hi, hz0, hz1, hz2⟩ := info_parts intInfo
  have hmk := fun W => run_make_row (P := Try.prog) 27 3 i0 (.int .i64 0) Try.underlying27 hi hz0 hz1 rfl .i64 .i64 n (by rw [hz2]; omega) (by omega) W
  obtain ⟨S, hS⟩ : ∃ z, spV P (N : Int) n X = z := ⟨_, rfl⟩
  simp only [hS] at HSV ⊢
  have HSS := hide hS
  have HLB := hide (fun k => lfN_bounds (r := (L : Int)) (X := X) l0 k)
  subst hv
  clear HZ hX hi hz0 hz1 hz2 hL hf hu hS
  obtain ⟨x0, x1, -, -, hlx⟩ := HX0.out.c2
  go_wp2_with fail
  refine (HLV.out _ (HI.out.below HB.out)).mono ?_
  rintro e_ w_6 ⟨rfl, hb_6⟩
  replace HX0 := hide (HX0.out.below hb_6)
  replace HB := hide (HB.out.trans (hb_6.mono HB.out.size))
  clear hb_6
  clear x0 x1 hlx HLV
  obtain ⟨x0, x1, -, -, hlx⟩ := HX0.out.c2
  have HI4 := hide (HI.out.below HB.out)
  go_upto_if 32 with fail
  go_cut [8] (fun v wx => v = .int .i64 f ∧ ∃ q, wx = w_6.drewN q)
  case first =>
    obtain ⟨bb, hbb⟩ : ∃ z, decide (L < N) = z := ⟨_, rfl⟩
    simp only [hbb]
    cases bb
    · have hlm : ¬ (L : Int) < (N : Int) := by have := of_decide_eq_false hbb; omega
      have HF0 := hide (HL0.out.trans (if_neg hlm))
      clear hlm hbb
      go_wp2_with fail
      go_meet
      case rel => exact ⟨by rw [HF0.out], 0, rfl⟩
    · have hlm : (L : Int) < (N : Int) := by have := of_decide_eq_true hbb; omega
      have q1 : IntKind.i64.wrap (P - u) = f := by rw [HL0.out, if_pos hlm]; exact IntWalk.i64_in _ (by omega)
      clear hlm hbb
      go_wp2_with fail
      go_quiet ((go_at_call 107; exact Calls.quiet_of_same ((HUS.out _ (by exact HI4.out)).mono fun _ _ h => ⟨h.1, h.2.symm⟩)))
      go_wp2_with fail
      go_meet
      case rel => exact ⟨rfl, _, rfl⟩
  case rest =>
    obtain ⟨rfl, q, rfl⟩ := hcut
    have HBq := hide (show Below w.heap.size w (w_6.drewN q) from ⟨HB.out.os, HB.out.tape, HB.out.output, HB.out.size, HB.out.block⟩)
    obtain ⟨wD, hwD⟩ : ∃ z : World, w_6.drewN q = z := ⟨_, rfl⟩
    rw [hwD] at HBq ⊢
    clear hwD x0 x1 hlx HUS HL0 HX0 HB HI4
    go_wp2_with fail
    clear hmk
    obtain ⟨g9, hg9⟩ : ∃ z, wD.heap.size = z := ⟨_, rfl⟩
    have le9 : w.heap.size ≤ g9 := by rw [← hg9]; exact HBq.out.size
    try simp only [hg9]
    go_loopw [8, 44] (fun a i wr => ∃ k : Nat, k ≤ n ∧ i = .int .i64 (k : Int) ∧ a = .int .i64 (lfN (L : Int) X f k) ∧ wr.rowIs g9 3 n (fun j => .int .i64 (if j < k then S j else 0)) ∧ Below w.heap.size w wr) (fun _ i _ => n - (Go.RowKit.intOf i).toNat)
    case atStart =>
      refine ⟨0, Nat.zero_le _, rfl, rfl, ?_, HBq.out.alloc HBq.out.size _⟩
      have h := World.rowIs_made wD (.int .i64 0) n 3
      rw [hg9] at h
      exact h.congr (fun _ _ => by simp)
    case round =>
      clear hg9 HBq
      obtain ⟨k, hk, rfl, rfl, hR, hB⟩ := hrel
      obtain ⟨wA, rfl⟩ : ∃ x : World, x = wr := ⟨_, rfl⟩
      by_cases hlt : k < n
      · have hltz : (k : Int) < (n : Int) := by omega
        obtain ⟨b, o, rfl, -, hbl, hcell⟩ := (HI.out.below hB) k hlt
        have hx := HX.out k hlt
        have hc2 := hR.cell hlt
        have hf2 := hR.frozen k
        have hl9 := hR.lt
        have hfb := HLB.out k
        have HF1 := hide (show lfN (L : Int) X f (k + 1) = if (L : Int) < X k ∧ 0 < lfN (L : Int) X f k then lfN (L : Int) X f k - 1 else lfN (L : Int) X f k from rfl)
        have HS1 := hide (show S k = if (L : Int) < X k ∧ 0 < lfN (L : Int) X f k then min (X k) (L : Int) + 1 else min (X k) (L : Int) from HSV.out k)
        obtain ⟨x, hxx⟩ : ∃ z, X k = z := ⟨_, rfl⟩
        obtain ⟨l, hll⟩ : ∃ z, lfN (L : Int) X f k = z := ⟨_, rfl⟩
        rw [hxx] at hcell hx HF1 HS1
        rw [hll] at hfb HF1 HS1
        simp only [hll]
        obtain ⟨m, hm⟩ : ∃ z, min x (L : Int) = z := ⟨_, rfl⟩
        rw [hm] at HS1
        have hmb : 0 ≤ m ∧ m ≤ 1000000 := by omega
        have q1 : IntKind.i64.wrap (m + 1) = m + 1 := IntWalk.i64_in _ (by omega)
        have q2 : IntKind.i64.wrap (l - 1) = l - 1 := IntWalk.i64_in _ (by omega)
        by_cases h1 : (L : Int) < x
        · have t1 : decide ((L : Int) < x) = true := by simpa using h1
          by_cases h2 : 0 < l
          · have t2 : decide (0 < l) = true := by simpa using h2
            rw [if_pos ⟨h1, h2⟩] at HF1 HS1
            clear hxx hll hx hfb hmb h1 h2
            go_wp2_with fail
            try simp only [hm]
            go_roundw
            case rel =>
              exact ⟨k + 1, by omega, by go_num, by rw [HF1.out], ((hR.set k _).set k _).congr (fun y _ => by
                  by_cases e : y = k
                  · subst e
                    rw [if_pos rfl, if_pos (Nat.lt_succ_self _), HS1.out]
                  · rw [if_neg e, if_neg e]
                    by_cases e2 : y < k
                    · rw [if_pos e2, if_pos (by omega)]
                    · rw [if_neg e2, if_neg (by omega)]), (hB.setCell le9 _).setCell le9 _⟩
            case measure => simp [Go.RowKit.intOf]; omega
          · have t2 : decide (0 < l) = false := by simpa using h2
            rw [if_neg (fun h => h2 h.2)] at HF1 HS1
            clear hxx hll hx hfb hmb h1 h2
            go_wp2_with fail
            try simp only [hm]
            go_roundw
            case rel =>
              exact ⟨k + 1, by omega, by go_num, by rw [HF1.out], (hR.set k _).congr (fun y _ => by
                  by_cases e : y = k
                  · subst e
                    rw [if_pos rfl, if_pos (Nat.lt_succ_self _), HS1.out]
                  · rw [if_neg e]
                    by_cases e2 : y < k
                    · rw [if_pos e2, if_pos (by omega)]
                    · rw [if_neg e2, if_neg (by omega)]), hB.setCell le9 _⟩
            case measure => simp [Go.RowKit.intOf]; omega
        · have t1 : decide ((L : Int) < x) = false := by simpa using h1
          rw [if_neg (fun h => h1 h.1)] at HF1 HS1
          clear hxx hll hx hfb hmb h1
          go_wp2_with fail
          try simp only [hm]
          go_roundw
          case rel =>
            exact ⟨k + 1, by omega, by go_num, by rw [HF1.out], (hR.set k _).congr (fun y _ => by
                by_cases e : y = k
                · subst e
                  rw [if_pos rfl, if_pos (Nat.lt_succ_self _), HS1.out]
                · rw [if_neg e]
                  by_cases e2 : y < k
                  · rw [if_pos e2, if_pos (by omega)]
                  · rw [if_neg e2, if_neg (by omega)]), hB.setCell le9 _⟩
          case measure => simp [Go.RowKit.intOf]; omega
      · obtain rfl : k = n := by omega
        go_wp2_with fail
        go_ret2
        exact ⟨_, k, k, rfl, ⟨fun _ => rfl, fun h => absurd rfl h⟩, Nat.le_refl _, hn12, IntsAt.of_row (hR.congr fun j hj => by rw [if_pos hj, ← HSS.out]) le9, hB⟩
end Go.Proofs.Ytdkbjgnkehoplaa
/- The awake of the laws of beams. -/
namespace Go.Proofs.Ytdkbjgnkehoplaa
open Go.RowKit Go.Great
theorem Box.ints {w : World} {b n : Nat} {t : TypeId} {cs : Array Value} (h : Box w b t cs) (F : Nat → Int) (hF : ∀ j, j < n → cs[j]? = some (.int .i64 (F j))) : IntsAt w 0 (some ⟨b, 0, none⟩) n F :=
  fun j hj => ⟨b, 0, rfl, Nat.zero_le _, h.lt, by rw [Nat.zero_add, h.at_ j]; exact hF j hj⟩
def awG : Nat → Int := listF [0, 7, 6, 5]
def awW : Nat → Int := listF [2, 9, 5]
def awS : Nat → Int := listF [2, 5, 4]
theorem ints4 {w : World} {b : Nat} {t : TypeId} {x0 x1 x2 x3 : Int} (h : Box w b t #[.int .i64 x0, .int .i64 x1, .int .i64 x2, .int .i64 x3]) : IntsAt w 0 (some ⟨b, 0, none⟩) 4 (listF [x0, x1, x2, x3]) := h.ints _ fun j hj => by
  have : j = 0 ∨ j = 1 ∨ j = 2 ∨ j = 3 := by omega
  rcases this with rfl | rfl | rfl | rfl <;> rfl
theorem ints3 {w : World} {b : Nat} {t : TypeId} {x0 x1 x2 : Int} (h : Box w b t #[.int .i64 x0, .int .i64 x1, .int .i64 x2]) : IntsAt w 0 (some ⟨b, 0, none⟩) 3 (listF [x0, x1, x2]) := h.ints _ fun j hj => by
  have : j = 0 ∨ j = 1 ∨ j = 2 := by omega
  rcases this with rfl | rfl | rfl <;> rfl
set_option maxRecDepth 100000 in
theorem awDoc1 : steE 4 1 = 0 ∧ gnE 4 awG 2 = 0 ∧ gnP 4 awG 2 = 4 ∧ gnQ 4 awG 2 = 2 ∧ stepE 5 = 0 ∧ waE 11 6 3 awW = 0 := by
  refine ⟨?_, ?_, ?_, ?_, ?_, ?_⟩ <;> kernel_rfl
set_option maxRecDepth 100000 in
theorem awDoc2 : intsB 4 (stF 1 1) 4 awG = true ∧ intsB 3 (spV 11 6 3 awW) 3 awS = true ∧ rfR 5 = 5 ∧ rfN 5 = 6 := by
  refine ⟨?_, ?_, ?_, ?_⟩ <;> kernel_rfl
set_option maxHeartbeats 8000000 in
set_option maxRecDepth 100000 in
theorem awake_any (w : World) :
    Calls Try.prog 10 #[] w fun e w' => e = .returned (.bool true) ∧ Below w.heap.size w w' := by
  obtain ⟨d1, d2, d3, d4, d5, d6⟩ := awDoc1
  obtain ⟨d7, d8, d9, d10⟩ := awDoc2
  have HGN := hide (fun (A : Option Addr) c W (h : IntsAt W 0 A 4 awG) => (show Calls Try.prog 59 #[.agg #[.slice A 4 c], .int .i64 2] W fun e w' => e = .returned (.tuple #[.agg #[.int .i64 4, .int .i64 2], .int .i64 0]) ∧ Below W.heap.size W w' by
    have := GainOf_any A 4 c awG 2 W (by decide) h
    rw [d2, d3, d4] at this
    exact this))
  have HRF := hide (fun W => (show Calls Try.prog 60 #[.int .i64 5] W fun e w' => ∃ v, e = .returned (.tuple #[v, .int .i64 5, .int .i64 0]) ∧ OwnLooks w' W.heap.size v 6 (rfF 5) (rfP 5) (rfQ 5) ∧ Below W.heap.size W w' by
    have := Refined_any 5 W
    rw [d5, d9, d10] at this
    exact this))
  have HSP := hide (fun (A : Option Addr) c W (h : IntsAt W 0 A 3 awW) => (show Calls Try.prog 61 #[.agg #[.int .i64 11, .int .i64 6], .slice A 3 c] W fun e w' => ∃ B d, e = .returned (.tuple #[.slice B 3 d, .int .i64 0]) ∧ 3 ≤ d ∧ d ≤ 12 ∧ IntsAt w' W.heap.size B 3 (spV 11 6 3 awW) ∧ Below W.heap.size W w' by
    refine (SplitOf_any 11 6 A 3 c awW W (by decide) h).mono ?_
    rintro e_ w_ ⟨B, m, d, rfl, h1, h2, h3, h4, h5⟩
    obtain rfl : m = 3 := h1.1 d6
    rw [d6]
    exact ⟨B, d, rfl, h2, h3, h4, h5⟩))
  have HI1 := hide (fun (A : Option Addr) (C : Option Addr) c d W (h : IntsAt W 0 A 4 (stF 1 1)) (k : IntsAt W 0 C 4 awG) => (show Calls Try.prog 19 #[.slice A 4 c, .slice C 4 d] W fun e w' => e = .returned (.bool true) ∧ ∃ q, w' = W.drewN q by
    have := ints_any A C 4 4 c d (stF 1 1) awG W (by decide) (by decide) h k
    rw [d7] at this
    exact this))
  have HI2 := hide (fun (A : Option Addr) (C : Option Addr) c d W (h : IntsAt W 0 A 3 (spV 11 6 3 awW)) (k : IntsAt W 0 C 3 awS) => (show Calls Try.prog 19 #[.slice A 3 c, .slice C 3 d] W fun e w' => e = .returned (.bool true) ∧ ∃ q, w' = W.drewN q by
    have := ints_any A C 3 3 c d (spV 11 6 3 awW) awS W (by decide) (by decide) h k
    rw [d8] at this
    exact this))
  clear d2 d3 d4 d5 d6 d7 d8 d9 d10
  go_enter Try.func10, Try.ntmps10
  go_wp2_with fail
  refine (Steering_any 4 1 _).mono ?_
  rintro e_ w_1 ⟨A, m, c, rfl, hm, hmc, hc8, hI, hb⟩
  obtain rfl : m = 4 := hm.1 d1
  rw [d1]
  have HI := hide hI
  have HB := hide hb
  clear hm d1 hmc hI hb
  go_upto_region 2 with fail
  obtain ⟨g1, hg1⟩ : ∃ q, w_1.heap.size = q := ⟨_, rfl⟩
  obtain ⟨w_2, hw_2⟩ : ∃ q : World, q = w_1.alloc (.cells #[.slice A 4 c] 43) := ⟨_, rfl⟩
  try rw [← hw_2]
  have HX1 := hide (show Box w_2 g1 43 #[.slice A 4 c] by rw [hw_2]; exact Box.made hg1.symm)
  have hc_2 : Below w_1.heap.size w_1 w_2 := by rw [hw_2]; exact (Below.refl _ _).alloc (Nat.le_refl _) _
  clear hw_2
  replace HI := hide (HI.out.below hc_2)
  replace HB := hide (HB.out.trans (hc_2.mono HB.out.size))
  clear hc_2
  try simp only [hg1]
  clear hg1
  go_wp2_with fail
  obtain ⟨g2, hg2⟩ : ∃ q, w_2.heap.size = q := ⟨_, rfl⟩
  obtain ⟨w_3, hw_3⟩ : ∃ q : World, q = w_2.alloc (.cells #[.int .i64 0, .int .i64 7, .int .i64 6, .int .i64 5] 3) := ⟨_, rfl⟩
  try rw [← hw_3]
  have HX2 := hide (show Box w_3 g2 3 #[.int .i64 0, .int .i64 7, .int .i64 6, .int .i64 5] by rw [hw_3]; exact Box.made hg2.symm)
  have hc_3 : Below w_2.heap.size w_2 w_3 := by rw [hw_3]; exact (Below.refl _ _).alloc (Nat.le_refl _) _
  clear hw_3
  replace HI := hide (HI.out.below hc_3)
  replace HX1 := hide (HX1.out.below hc_3)
  replace HB := hide (HB.out.trans (hc_3.mono HB.out.size))
  clear hc_3
  try simp only [hg2]
  clear hg2
  refine (HGN.out _ _ _ (ints4 HX2.out)).mono ?_
  rintro e_ w_4 ⟨rfl, hb_4⟩
  replace HI := hide (HI.out.below hb_4)
  replace HX1 := hide (HX1.out.below hb_4)
  replace HX2 := hide (HX2.out.below hb_4)
  replace HB := hide (HB.out.trans (hb_4.mono HB.out.size))
  clear hb_4
  clear HX2
  go_upto_region 3 with fail
  obtain ⟨g3, hg3⟩ : ∃ q, w_4.heap.size = q := ⟨_, rfl⟩
  obtain ⟨w_5, hw_5⟩ : ∃ q : World, q = w_4.alloc (.cells #[.int .i64 4, .int .i64 2] 39) := ⟨_, rfl⟩
  try rw [← hw_5]
  have HX3 := hide (show Box w_5 g3 39 #[.int .i64 4, .int .i64 2] by rw [hw_5]; exact Box.made hg3.symm)
  have hc_5 : Below w_4.heap.size w_4 w_5 := by rw [hw_5]; exact (Below.refl _ _).alloc (Nat.le_refl _) _
  clear hw_5
  replace HI := hide (HI.out.below hc_5)
  replace HX1 := hide (HX1.out.below hc_5)
  replace HB := hide (HB.out.trans (hc_5.mono HB.out.size))
  clear hc_5
  try simp only [hg3]
  clear hg3
  go_wp2_with fail
  refine (HRF.out _).mono ?_
  rintro e_ w_6 ⟨v, rfl, hl, hb_6⟩
  replace HI := hide (HI.out.below hb_6)
  replace HX1 := hide (HX1.out.below hb_6)
  replace HX3 := hide (HX3.out.below hb_6)
  replace HB := hide (HB.out.trans (hb_6.mono HB.out.size))
  clear hb_6
  have HL := hide hl
  clear hl
  go_wp2_with fail
  obtain ⟨g4, hg4⟩ : ∃ q, w_6.heap.size = q := ⟨_, rfl⟩
  obtain ⟨w_7, hw_7⟩ : ∃ q : World, q = w_6.alloc (.cells #[.int .i64 2, .int .i64 9, .int .i64 5] 3) := ⟨_, rfl⟩
  try rw [← hw_7]
  have HX4 := hide (show Box w_7 g4 3 #[.int .i64 2, .int .i64 9, .int .i64 5] by rw [hw_7]; exact Box.made hg4.symm)
  have hc_7 : Below w_6.heap.size w_6 w_7 := by rw [hw_7]; exact (Below.refl _ _).alloc (Nat.le_refl _) _
  clear hw_7
  replace HI := hide (HI.out.below hc_7)
  replace HX1 := hide (HX1.out.below hc_7)
  replace HX3 := hide (HX3.out.below hc_7)
  replace HL := hide (HL.out.below hc_7)
  replace HB := hide (HB.out.trans (hc_7.mono HB.out.size))
  clear hc_7
  try simp only [hg4]
  clear hg4
  refine (HSP.out _ _ _ (ints3 HX4.out)).mono ?_
  rintro e_ w_8 ⟨B, d, rfl, hd3, hd12, hS, hb_8⟩
  replace HI := hide (HI.out.below hb_8)
  replace HX1 := hide (HX1.out.below hb_8)
  replace HX3 := hide (HX3.out.below hb_8)
  replace HL := hide (HL.out.below hb_8)
  replace HX4 := hide (HX4.out.below hb_8)
  replace HB := hide (HB.out.trans (hb_8.mono HB.out.size))
  clear hb_8
  clear HX4
  have HS := hide (hS.weak (Nat.zero_le _))
  clear hS
  obtain ⟨C, cc, rfl, hcc, -, -⟩ := HL.out.form
  clear HL
  have x1 := HX1.out.at_ 0
  simp only [List.getElem?_toArray] at x1
  go_wp2_with fail
  clear x1
  obtain ⟨g5, hg5⟩ : ∃ q, w_8.heap.size = q := ⟨_, rfl⟩
  obtain ⟨w_9, hw_9⟩ : ∃ q : World, q = w_8.alloc (.cells #[.int .i64 0, .int .i64 7, .int .i64 6, .int .i64 5] 3) := ⟨_, rfl⟩
  try rw [← hw_9]
  have HX5 := hide (show Box w_9 g5 3 #[.int .i64 0, .int .i64 7, .int .i64 6, .int .i64 5] by rw [hw_9]; exact Box.made hg5.symm)
  have hc_9 : Below w_8.heap.size w_8 w_9 := by rw [hw_9]; exact (Below.refl _ _).alloc (Nat.le_refl _) _
  clear hw_9
  replace HI := hide (HI.out.below hc_9)
  replace HX1 := hide (HX1.out.below hc_9)
  replace HX3 := hide (HX3.out.below hc_9)
  replace HS := hide (HS.out.below hc_9)
  replace HB := hide (HB.out.trans (hc_9.mono HB.out.size))
  clear hc_9
  try simp only [hg5]
  clear hg5
  refine (HI1.out _ _ _ _ _ (HI.out.weak (Nat.zero_le _)) (ints4 HX5.out)).mono ?_
  rintro e_ v_10 ⟨rfl, q_10, rfl⟩
  obtain ⟨w_10, hw_10⟩ : ∃ z : World, z = w_9.drewN q_10 := ⟨_, rfl⟩
  rw [← hw_10]
  have hc_10 : Below w_9.heap.size w_9 w_10 := by rw [hw_10]; exact Go.below_drewN (Below.refl _ _) _
  clear hw_10
  replace HI := hide (HI.out.below hc_10)
  replace HX1 := hide (HX1.out.below hc_10)
  replace HX3 := hide (HX3.out.below hc_10)
  replace HS := hide (HS.out.below hc_10)
  replace HX5 := hide (HX5.out.below hc_10)
  replace HB := hide (HB.out.trans (hc_10.mono HB.out.size))
  clear hc_10
  clear HX5 HI
  have x3 := HX3.out.at_ 0
  have y3 := HX3.out.at_ 1
  simp only [List.getElem?_toArray] at x3 y3
  go_wp2_with fail
  clear x3 y3
  obtain ⟨g6, hg6⟩ : ∃ q, w_10.heap.size = q := ⟨_, rfl⟩
  obtain ⟨w_11, hw_11⟩ : ∃ q : World, q = w_10.alloc (.cells #[.int .i64 2, .int .i64 5, .int .i64 4] 3) := ⟨_, rfl⟩
  try rw [← hw_11]
  have HX6 := hide (show Box w_11 g6 3 #[.int .i64 2, .int .i64 5, .int .i64 4] by rw [hw_11]; exact Box.made hg6.symm)
  have hc_11 : Below w_10.heap.size w_10 w_11 := by rw [hw_11]; exact (Below.refl _ _).alloc (Nat.le_refl _) _
  clear hw_11
  replace HX1 := hide (HX1.out.below hc_11)
  replace HX3 := hide (HX3.out.below hc_11)
  replace HS := hide (HS.out.below hc_11)
  replace HB := hide (HB.out.trans (hc_11.mono HB.out.size))
  clear hc_11
  try simp only [hg6]
  clear hg6
  refine (HI2.out _ _ _ _ _ HS.out (ints3 HX6.out)).mono ?_
  rintro e_ v_12 ⟨rfl, q_12, rfl⟩
  obtain ⟨w_12, hw_12⟩ : ∃ z : World, z = w_11.drewN q_12 := ⟨_, rfl⟩
  rw [← hw_12]
  have hc_12 : Below w_11.heap.size w_11 w_12 := by rw [hw_12]; exact Go.below_drewN (Below.refl _ _) _
  clear hw_12
  replace HX1 := hide (HX1.out.below hc_12)
  replace HX3 := hide (HX3.out.below hc_12)
  replace HS := hide (HS.out.below hc_12)
  replace HX6 := hide (HX6.out.below hc_12)
  replace HB := hide (HB.out.trans (hc_12.mono HB.out.size))
  clear hc_12
  go_wp2_with fail
  go_ret
  exact ⟨rfl, HB.out⟩
end Go.Proofs.Ytdkbjgnkehoplaa
