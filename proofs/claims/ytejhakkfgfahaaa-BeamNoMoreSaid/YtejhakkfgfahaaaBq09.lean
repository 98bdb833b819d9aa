/- Lemmas: E7, E8, E9. -/
import Derived.Laws.MakeOwn
import Derived.Test.YtejhakkfgfahaaaBq03
import Derived.Test.YtejhakkfgfahaaaBq05
set_option linter.unusedVariables false
set_option linter.unusedSimpArgs false
/- A fair split (without a walk): what is used at a level, the greatest level for which the power does, what each beam gets. -/
namespace Go.Proofs.Ytejhakkfgfahaaa
open Go.RowKit
/-- What the first k beams use at a level. -/
def usN (L : Int) (X : Nat → Int) : Nat → Int
  | 0 => 0
  | k + 1 => usN L X k + min (X k) L
theorem usN_bounds {L M : Int} {X : Nat → Int} (hL : 0 ≤ L) : ∀ k, (∀ j, j < k → 0 ≤ X j ∧ X j ≤ M) → 0 ≤ usN L X k ∧ usN L X k ≤ k * M
  | 0, _ => by show (0 : Int) ≤ 0 ∧ (0 : Int) ≤ ((0 : Nat) : Int) * M; simp
  | k + 1, h => by
    have h1 := usN_bounds hL k fun j hj => h j (by omega)
    have h2 := h k (Nat.lt_succ_self k)
    have e : ((k + 1 : Nat) : Int) * M = k * M + M := by rw [Int.natCast_succ, Int.add_mul, Int.one_mul]
    rw [e]
    show 0 ≤ usN L X k + min (X k) L ∧ usN L X k + min (X k) L ≤ k * M + M
    omega
theorem usN_mono {L M : Int} {X : Nat → Int} (h : L ≤ M) : ∀ k, usN L X k ≤ usN M X k
  | 0 => Int.le_refl _
  | k + 1 => by
    have := usN_mono (X := X) h k
    show usN L X k + min (X k) L ≤ usN M X k + min (X k) M
    omega
theorem usN_congr {L : Int} {X Y : Nat → Int} : ∀ k, (∀ j, j < k → X j = Y j) → usN L X k = usN L Y k
  | 0, _ => rfl
  | k + 1, h => by
    show usN L X k + min (X k) L = usN L Y k + min (Y k) L
    rw [usN_congr k fun j hj => h j (by omega), h k (Nat.lt_succ_self k)]
/-- A number at most N behind which (or at N) a predicate is so, and not ahead of it. -/
def IsLevel (p : Nat → Bool) (N r : Nat) : Prop := r ≤ N ∧ (r = N ∨ p r = true) ∧ (r = 0 ∨ p (r - 1) = false)
theorem IsLevel.only {p : Nat → Bool} {N r s : Nat} (hm : ∀ i j, i ≤ j → p i = true → p j = true) (h : IsLevel p N r) (k : IsLevel p N s) : r = s := by
  obtain ⟨h1, h2, h3⟩ := h
  obtain ⟨k1, k2, k3⟩ := k
  rcases Nat.lt_trichotomy r s with e | e | e
  · exfalso
    rcases k3 with k3 | k3
    · omega
    · rcases h2 with h2 | h2
      · omega
      · rw [hm r (s - 1) (by omega) h2] at k3; cases k3
  · exact e
  · exfalso
    rcases h3 with h3 | h3
    · omega
    · rcases k2 with k2 | k2
      · omega
      · rw [hm s (r - 1) (by omega) k2] at h3; cases h3
/-- Is the power not enough for one level more? -/
def ovB (P : Int) (X : Nat → Int) (n : Nat) (r : Nat) : Bool := decide (P < usN ((r : Int) + 1) X n)
theorem ovB_mono {P : Int} {X : Nat → Int} {n : Nat} : ∀ i j, i ≤ j → ovB P X n i = true → ovB P X n j = true := fun i j hij h => by
  have h1 : P < usN ((i : Int) + 1) X n := of_decide_eq_true h
  have h2 := usN_mono (X := X) (L := (i : Int) + 1) (M := (j : Int) + 1) (by omega) n
  exact decide_eq_true (by omega)
/-- What is left to be given out one by one, behind the first k beams; what the beam k gets. -/
def lfN (r : Int) (X : Nat → Int) (l0 : Int) : Nat → Int
  | 0 => l0
  | k + 1 => if r < X k ∧ 0 < lfN r X l0 k then lfN r X l0 k - 1 else lfN r X l0 k
def spF (r : Int) (X : Nat → Int) (l0 : Int) (k : Nat) : Int := if r < X k ∧ 0 < lfN r X l0 k then min (X k) r + 1 else min (X k) r
/-- What is left at first. -/
def lf0 (P M : Int) (X : Nat → Int) (n : Nat) (r : Int) : Int := if r < M then P - usN r X n else 0
theorem lfN_bounds {r l0 : Int} {X : Nat → Int} (h : 0 ≤ l0) : ∀ k, 0 ≤ lfN r X l0 k ∧ lfN r X l0 k ≤ l0
  | 0 => ⟨h, Int.le_refl _⟩
  | k + 1 => by
    have := lfN_bounds (r := r) (X := X) h k
    rw [show lfN r X l0 (k + 1) = if r < X k ∧ 0 < lfN r X l0 k then lfN r X l0 k - 1 else lfN r X l0 k from rfl]
    split <;> omega
/-- The errors of a panel and of wants. -/
def paE (P M : Int) : Int := firstE [inE 0 1000000 P, inE 0 1000000 M]
def waE (P M : Int) (n : Nat) (X : Nat → Int) : Int := firstE [paE P M, unI (decide ((n : Int) ≤ 12)) 8, badE (fun j => inE 0 1000000 (X j)) n]
theorem paE_zero {P M : Int} (h : paE P M = 0) : (0 ≤ P ∧ P ≤ 1000000) ∧ 0 ≤ M ∧ M ≤ 1000000 := by
  obtain ⟨h1, h2⟩ := firstE_none2 h
  obtain ⟨h3, -⟩ := firstE_none2 h2
  exact ⟨withinB_iff.1 (unI_none (by decide) h1), withinB_iff.1 (unI_none (by decide) h3)⟩
theorem waE_zero {P M : Int} {n : Nat} {X : Nat → Int} (h : waE P M n X = 0) : ((0 ≤ P ∧ P ≤ 1000000) ∧ 0 ≤ M ∧ M ≤ 1000000) ∧ n ≤ 12 ∧ ∀ j, j < n → 0 ≤ X j ∧ X j ≤ 1000000 := by
  obtain ⟨h1, h2⟩ := firstE_none2 h
  obtain ⟨h3, h4⟩ := firstE_none2 h2
  obtain ⟨h5, -⟩ := firstE_none2 h4
  have h3 := unI_none (by decide) h3
  simp at h3
  exact ⟨paE_zero h1, by omega, fun j hj => withinB_iff.1 (unI_none (by decide) (badE_none h5 j hj))⟩
/-- The level is unique, and there is one. -/
def lvN (P : Int) (X : Nat → Int) (n : Nat) : Nat → Nat
  | 0 => 0
  | m + 1 => if lvN P X n m < m then lvN P X n m else if ovB P X n m = true then m else m + 1
theorem lvN_le {P : Int} {X : Nat → Int} {n : Nat} : ∀ m, lvN P X n m ≤ m
  | 0 => Nat.le_refl _
  | m + 1 => by
    have := lvN_le (P := P) (X := X) (n := n) m
    unfold lvN
    split
    · omega
    · split <;> omega
theorem lvN_is {P : Int} {X : Nat → Int} {n : Nat} : ∀ m, IsLevel (ovB P X n) m (lvN P X n m)
  | 0 => ⟨Nat.le_refl _, .inl rfl, .inl rfl⟩
  | m + 1 => by
    obtain ⟨h1, h2, h3⟩ := lvN_is (P := P) (X := X) (n := n) m
    unfold lvN
    split
    · rename_i hlt
      exact ⟨by omega, .inr (h2.resolve_left (by omega)), h3⟩
    · split
      · rename_i h4 h5
        have e : lvN P X n m = m := by omega
        rw [e] at h3
        exact ⟨by omega, .inr h5, h3⟩
      · rename_i h4 h5
        exact ⟨Nat.le_refl _, .inl rfl, .inr (by rw [Nat.add_sub_cancel]; simpa using h5)⟩
theorem level_is {P : Int} {X : Nat → Int} {n N r : Nat} (h : IsLevel (ovB P X n) N r) : r = lvN P X n N := h.only ovB_mono (lvN_is N)
/-- At the level the power does. -/
theorem level_does {P : Int} {X : Nat → Int} {n N : Nat} (hP : 0 ≤ P) (hX : ∀ j, j < n → 0 ≤ X j) : usN (lvN P X n N : Int) X n ≤ P := by
  obtain ⟨-, -, h⟩ := lvN_is (P := P) (X := X) (n := n) N
  generalize lvN P X n N = r at *
  rcases h with h | h
  · subst h
    have : ∀ k, k ≤ n → usN ((0 : Nat) : Int) X k ≤ 0 := fun k => by
      induction k with
      | zero => intro _; exact Int.le_refl _
      | succ k ih =>
        intro hk
        have h1 := ih (by omega)
        have h2 := hX k (by omega)
        show usN ((0 : Nat) : Int) X k + min (X k) ((0 : Nat) : Int) ≤ 0
        omega
    have := this n (Nat.le_refl n)
    omega
  · by_cases h0 : r = 0
    · subst h0
      have h1 : ¬ P < usN (((0 - 1 : Nat) : Int) + 1) X n := of_decide_eq_false h
      have h2 := usN_mono (X := X) (L := ((0 : Nat) : Int)) (M := ((0 - 1 : Nat) : Int) + 1) (by omega) n
      omega
    · have h1 : ¬ P < usN (((r - 1 : Nat) : Int) + 1) X n := of_decide_eq_false h
      rw [show ((r - 1 : Nat) : Int) + 1 = (r : Int) from by omega] at h1
      omega
end Go.Proofs.Ytejhakkfgfahaaa
/- usedAt, sort.Search, levelOf and panelError of the code. -/
namespace Go.Proofs.Ytejhakkfgfahaaa
open Go.RowKit Go.Great
set_option maxHeartbeats 2000000 in
set_option maxRecDepth 100000 in
theorem usedAt_any (L : Int) (A : Option Addr) (n c : Nat) (X : Nat → Int) (w : World) (hn : n ≤ 100) (hL : 0 ≤ L ∧ L ≤ 1000001) (hX : ∀ j, j < n → 0 ≤ X j ∧ X j ≤ 1000000) (hI : IntsAt w 0 A n X) :
    Calls Try.prog 67 #[.int .i64 L, .slice A n c] w fun e w' => e = .returned (.int .i64 (usN L X n)) ∧ w = w' := by
  have HI := hide hI
  have HX := hide hX
  have HU := hide (fun k (hk : k ≤ n) => usN_bounds (X := X) (M := 1000000) hL.1 k fun j hj => hX j (by omega))
  clear hI hX
  go_enter Try.func67, Try.ntmps67
  go_wp2_with fail
  go_loopw [5, 10] (fun s i wr => ∃ k : Nat, k ≤ n ∧ i = .int .i64 (k : Int) ∧ s = .int .i64 (usN L X k) ∧ w = wr) (fun _ i _ => n - (Go.RowKit.intOf i).toNat)
  case atStart => exact ⟨0, Nat.zero_le _, rfl, rfl, rfl⟩
  case round =>
    obtain ⟨k, hk, rfl, rfl, rfl⟩ := hrel
    by_cases hlt : k < n
    · have hltz : (k : Int) < (n : Int) := by omega
      obtain ⟨b, o, rfl, -, hb, hcell⟩ := HI.out k hlt
      have hx := HX.out k hlt
      have hu := HU.out k (by omega)
      have HS := hide (show usN L X (k + 1) = usN L X k + min (X k) L from rfl)
      obtain ⟨x, hxx⟩ : ∃ z, X k = z := ⟨_, rfl⟩
      obtain ⟨u, huu⟩ : ∃ z, usN L X k = z := ⟨_, rfl⟩
      rw [hxx] at hcell hx HS
      rw [huu] at hu HS
      simp only [huu]
      have hku : u ≤ 100000000 := by omega
      clear hxx huu
      obtain ⟨v, hv⟩ : ∃ v, usN L X (k + 1) = v := ⟨_, rfl⟩
      have q1 : IntKind.i64.wrap (u + min x L) = v := by rw [← hv, HS.out]; exact IntWalk.i64_in _ (by omega)
      have q2 : wrap64 (u + min x L) = v := by rw [← hv, HS.out]; unfold wrap64; omega
      have HV := hide hv
      clear hu hx hv
      go_wp2_with fail
      go_roundw
      case rel => exact ⟨k + 1, by omega, by go_num, by rw [HV.out], by first | rfl | trivial⟩
      case measure => simp [Go.RowKit.intOf]; omega
    · obtain rfl : k = n := by omega
      go_wp2_with fail
      go_ret
      exact ⟨rfl, rfl⟩
set_option maxHeartbeats 4000000 in
set_option maxRecDepth 100000 in
theorem search_any (g : Nat) (lb : Array Value) (eg : ∀ args w, (callFunc g args).run Try.prog w = .ok (.enter g args) w) (p : Nat → Bool) (N : Nat) (w : World) (hN : N ≤ 100000000)
    (hp : ∀ (i : Nat) W, i < N → Below w.heap.size w W → Calls Try.prog g (#[.int .i64 (i : Int)] ++ lb) W fun e w' => e = .returned (.bool (p i)) ∧ ∃ q, w' = W.drewN q) :
    Calls Try.prog 81 #[.int .i64 (N : Int), .func (.func g) #[] lb] w fun e w' => ∃ r : Nat, e = .returned (.int .i64 (r : Int)) ∧ IsLevel p N r ∧ ∃ q, w' = w.drewN q := by
  have HP := hide (fun (i q : Nat) (hi : i < N) => hp i (w.drewN q) hi (Go.below_drewN (Below.refl _ _) q))
  clear hp
  go_enter Try.func81, Try.ntmps81
  go_wp2_with fail
  go_loopg [5, 6] N (fun gg a b wr => ∃ i j q : Nat, i ≤ j ∧ j ≤ N ∧ j - i ≤ gg ∧ a = .int .i64 (i : Int) ∧ b = .int .i64 (j : Int) ∧ Hid (j = N ∨ p j = true) ∧ Hid (i = 0 ∨ p (i - 1) = false) ∧ wr = w.drewN q)
  case atStart => exact ⟨0, N, 0, Nat.zero_le _, Nat.le_refl _, by omega, rfl, rfl, hide (.inl rfl), hide (.inl rfl), rfl⟩
  case round =>
    obtain ⟨i, j, q, hij, hjN, hg, rfl, rfl, HJ, HI, rfl⟩ := hrel
    by_cases hlt : i < j
    · have hltz : (i : Int) < (j : Int) := by omega
      obtain ⟨h, hh⟩ : ∃ h : Nat, (i + j) / 2 = h := ⟨_, rfl⟩
      have h1 : i ≤ h := by omega
      have h2 : h < j := by omega
      have q1 : IntKind.i64.wrap ((i : Int) + (j : Int)) = ((i + j : Nat) : Int) := by rw [IntWalk.i64_in _ (by omega)]; omega
      have HC := hide (HP.out h q (by omega))
      obtain ⟨v, hv⟩ : ∃ z, p h = z := ⟨_, rfl⟩
      rw [hv] at HC
      have HV := hide hv
      have hz : ((i : Int) + (j : Int)) / 2 = (h : Int) := by omega
      clear hv hh
      go_wp2_with fail
      refine HC.out.mono ?_
      rintro e w' ⟨rfl, q', rfl⟩
      clear hz q1
      cases v
      · go_wp2_with fail
        go_roundg (j - (h + 1))
        case measure => omega
        case rel => exact ⟨h + 1, j, _, by omega, hjN, by omega, by go_num, rfl, HJ, hide (.inr (by rw [Nat.add_sub_cancel]; exact HV.out)), by first | rfl | exact World.drewN_drewN _ _ _⟩
      · go_wp2_with fail
        go_roundg (h - i)
        case measure => omega
        case rel => exact ⟨i, h, _, h1, by omega, by omega, rfl, rfl, hide (.inr HV.out), HI, by first | rfl | exact World.drewN_drewN _ _ _⟩
    · obtain rfl : i = j := by omega
      go_wp2_with fail
      go_ret
      exact ⟨i, rfl, ⟨hjN, HJ.out, HI.out⟩, q, rfl⟩
set_option maxHeartbeats 4000000 in
set_option maxRecDepth 100000 in
theorem levelOf1_any (P M : Int) (A : Option Addr) (n c b1 b2 i : Nat) (X : Nat → Int) (w : World) (hn : n ≤ 100) (hi : i < 1000000) (hX : ∀ j, j < n → 0 ≤ X j ∧ X j ≤ 1000000) (hI : IntsAt w 0 A n X) (h1 : w.cell? ⟨b1, 0, none⟩ = some (.slice A n c)) (h2 : w.cell? ⟨b2, 0, none⟩ = some (.int .i64 P)) :
    Calls Try.prog 82 #[.int .i64 (i : Int), .pointer (some ⟨b1, 0, none⟩), .pointer (some ⟨b2, 0, none⟩)] w fun e w' => e = .returned (.bool (ovB P X n i)) ∧ ∃ q, w' = w.drewN q := by
  have HU := hide (fun W (h : IntsAt W 0 A n X) => usedAt_any ((i : Int) + 1) A n c X W hn (by omega) hX h)
  have HI := hide hI
  have q1 : IntKind.i64.wrap ((i : Int) + 1) = (i : Int) + 1 := IntWalk.i64_in _ (by omega)
  have HO := hide (show ovB P X n i = decide (P < usN ((i : Int) + 1) X n) from rfl)
  obtain ⟨u, hu⟩ : ∃ z, usN ((i : Int) + 1) X n = z := ⟨_, rfl⟩
  rw [hu] at HU HO
  clear hI hX hu
  go_enter Try.func82, Try.ntmps82
  go_wp2_with fail
  go_quiet ((go_at_call 67; exact Calls.quiet_of_same ((HU.out _ (by exact HI.out)).mono fun _ _ h => ⟨h.1, h.2.symm⟩)))
  go_wp2_with fail
  go_ret
  exact ⟨by rw [HO.out]; rfl, _, rfl⟩
set_option maxHeartbeats 4000000 in
set_option maxRecDepth 100000 in
theorem levelOf_any (P : Int) (N : Nat) (A : Option Addr) (n c : Nat) (X : Nat → Int) (w : World) (hn : n ≤ 100) (hN : N ≤ 1000000) (hX : ∀ j, j < n → 0 ≤ X j ∧ X j ≤ 1000000) (hI : IntsAt w 0 A n X) :
    Calls Try.prog 68 #[.agg #[.int .i64 P, .int .i64 (N : Int)], .slice A n c] w fun e w' => e = .returned (.int .i64 (lvN P X n N : Int)) ∧ Below w.heap.size w w' := by
  have HX := hide hX
  have HI := hide hI
  clear hI hX
  go_enter Try.func68, Try.ntmps68
  go_upto_region 1 with fail
  obtain ⟨W, hW⟩ : ∃ y : World, y = (w.alloc (.cells #[.int .i64 P, .int .i64 (N : Int)] 67)).alloc (.cells #[.slice A n c] 22) := ⟨_, rfl⟩
  rw [← hW]
  have b2 : Box W w.heap.size 67 #[.int .i64 P, .int .i64 (N : Int)] := by rw [hW]; exact (Box.made rfl).alloc _
  have b3 : Box W (w.heap.size + 1) 22 #[.slice A n c] := by rw [hW]; exact Box.made (by simp)
  have hB : Below w.heap.size w W := by rw [hW]; (repeat (first | (with_reducible exact Below.refl _ _) | (with_reducible refine Go.below_drewN ?_ _) | (with_reducible refine Below.drew ?_) | (with_reducible refine Below.alloc ?_ (by first | exact Nat.le_refl _ | (simp; done) | (simp; omega) | omega) _) | (with_reducible refine Below.setCell ?_ (by first | exact Nat.le_refl _ | (simp; done) | (simp; omega) | omega) _)))
  have HS := hide (search_any 82 #[.pointer (some ⟨w.heap.size + 1, 0, none⟩), .pointer (some ⟨w.heap.size, 0, none⟩)] (enters_of Try.func82 (by kernel_rfl) rfl) (ovB P X n) N W (by omega) (fun i W' hi hb => levelOf1_any P (N : Int) A n c (w.heap.size + 1) w.heap.size i X W' hn (by omega) HX.out ((HI.out.below hB).below hb) ((b3.below hb).at_ 0) ((b2.below hb).at_ 0)))
  clear hW
  obtain ⟨x0, x1, -, -, hlx⟩ := b2.c2
  go_wp2_with fail
  refine HS.out.mono ?_
  rintro e w1 ⟨r, rfl, hr, q, rfl⟩
  have e0 := level_is hr
  subst e0
  clear x0 x1 hlx HS hr
  go_wp2_with fail
  go_ret
  exact ⟨rfl, Go.below_drewN hB _⟩
set_option maxHeartbeats 4000000 in
set_option maxRecDepth 100000 in
theorem panelError_any (P M : Int) (w : World) :
    Calls Try.prog 66 #[.agg #[.int .i64 P, .int .i64 M]] w fun e w' => e = .returned (.int .i64 (paE P M)) ∧ Below w.heap.size w w' := by
  have HE := hide (show firstE [unI (withinB P 0 1000000) 2, unI (withinB M 0 1000000) 2] = paE P M from rfl)
  generalize paE P M = V at *
  go_enter Try.func66, Try.ntmps66
  go_upto_region 1 with fail
  obtain ⟨w_1, hw_1⟩ : ∃ q : World, q = (w.alloc (.cells #[.int .i64 P, .int .i64 M] 67)) := ⟨_, rfl⟩
  try rw [← hw_1]
  have HX0 := hide (show Box w_1 (w.heap.size) 67 #[.int .i64 P, .int .i64 M] by rw [hw_1]; exact Box.made rfl)
  have HB := hide (show Below w.heap.size w w_1 by rw [hw_1]; (repeat (first | (with_reducible exact Below.refl _ _) | (with_reducible refine Go.below_drewN ?_ _) | (with_reducible refine Below.drew ?_) | (with_reducible refine Below.alloc ?_ (by first | exact Nat.le_refl _ | (simp; done) | (simp; omega) | omega) _) | (with_reducible refine Below.setCell ?_ (by first | exact Nat.le_refl _ | (simp; done) | (simp; omega) | omega) _))))
  clear hw_1
  refine wp_region_held_drew (S := fun w' => w'.cell? ⟨w.heap.size, 0, none⟩ = some (.int .i64 P) ∧ w'.cell? ⟨w.heap.size, 1, none⟩ = some (.int .i64 M)) (by kernel_rfl) ⟨HX0.out.c2.1, HX0.out.c2.2.1⟩ (fun hHeld => ?_)
  obtain ⟨w_2, hw_2⟩ : ∃ q : World, q = w_1.drew := ⟨_, rfl⟩
  rw [← hw_2] at hHeld ⊢
  have hc_2 : Below w_1.heap.size w_1 w_2 := by rw [hw_2]; exact (Below.refl _ _).drew
  clear hw_2
  replace HX0 := hide (HX0.out.below hc_2)
  replace HB := hide (HB.out.trans (hc_2.mono HB.out.size))
  clear hc_2
  refine wpAnyH_take (i := 0) (oi := ⟨some 3, _, _, _, _, _⟩) (v := ?_) rfl (by kernel_rfl) (by kernel_rfl) (by kernel_rfl) (fun _ _ _ h => h) (Or.inl ⟨by rfl, ?_⟩) (by assumption) ?_
  rotate_left
  · (intro w' hSw; (try dsimp only at hSw); go_simp <;> (with_reducible rfl))
  try simp only [Act.put, List.setIfInBounds_toArray, List.set_cons_zero, List.set_cons_succ]
  refine wpAnyH_take (i := 1) (oi := ⟨some 4, _, _, _, _, _⟩) (v := ?_) rfl (by kernel_rfl) (by kernel_rfl) (by kernel_rfl) (fun _ _ _ h => h) (Or.inl ⟨by rfl, ?_⟩) (by assumption) ?_
  rotate_left
  · (intro w' hSw; (try dsimp only at hSw); go_simp <;> (with_reducible rfl))
  try simp only [Act.put, List.setIfInBounds_toArray, List.set_cons_zero, List.set_cons_succ]
  refine wpAnyH_take (i := 4) (oi := ⟨some 7, _, _, _, _, _⟩) (v := ?_) rfl (by kernel_rfl) (by kernel_rfl) (by kernel_rfl) (fun _ _ _ h => h) (Or.inl ⟨by rfl, ?_⟩) (by assumption) ?_
  rotate_left
  · (intro w' hSw; (try dsimp only at hSw); go_simp <;> (with_reducible rfl))
  try simp only [Act.put, List.setIfInBounds_toArray, List.set_cons_zero, List.set_cons_succ]
  refine wpAnyH_take (i := 5) (oi := ⟨some 8, _, _, _, _, _⟩) (v := ?_) rfl (by kernel_rfl) (by kernel_rfl) (by kernel_rfl) (fun _ _ _ h => h) (Or.inl ⟨by rfl, ?_⟩) (by assumption) ?_
  rotate_left
  · (intro w' hSw; (try dsimp only at hSw); go_simp <;> (with_reducible rfl))
  try simp only [Act.put, List.setIfInBounds_toArray, List.set_cons_zero, List.set_cons_succ]
  refine wpAnyH_ready (rs := [2]) (by kernel_rfl) (by simp) ?_
  refine AllReadyH.cons (o := ⟨some 5, _, _, _, _, _⟩) rfl (fun K' hK => ?_) AllReadyH.nil
  go_simp
  go_at_call 50
  refine (isWithin_any _ _ _ _).mono ?_
  rintro e_ v_ ⟨rfl, rfl⟩
  go_wp2_with fail
  refine hK.out _ _ ⟨HX0.out.c2.1, HX0.out.c2.2.1⟩ (fun hHeld => ?_)
  clear hK K'
  try simp only [Act.put, List.setIfInBounds_toArray, List.set_cons_zero, List.set_cons_succ]
  refine wpAnyH_ready (rs := [3]) (by kernel_rfl) (by simp) ?_
  refine AllReadyH.cons (o := ⟨some 6, _, _, _, _, _⟩) rfl (fun K' hK => ?_) AllReadyH.nil
  go_simp
  go_at_call 45
  refine (unless_any _ _ _).mono ?_
  rintro e_ v_ ⟨rfl, rfl⟩
  go_wp2_with fail
  refine hK.out _ _ ⟨HX0.out.c2.1, HX0.out.c2.2.1⟩ (fun hHeld => ?_)
  clear hK K'
  try simp only [Act.put, List.setIfInBounds_toArray, List.set_cons_zero, List.set_cons_succ]
  refine wpAnyH_ready (rs := [6]) (by kernel_rfl) (by simp) ?_
  refine AllReadyH.cons (o := ⟨some 9, _, _, _, _, _⟩) rfl (fun K' hK => ?_) AllReadyH.nil
  go_simp
  go_at_call 50
  refine (isWithin_any _ _ _ _).mono ?_
  rintro e_ v_ ⟨rfl, rfl⟩
  go_wp2_with fail
  refine hK.out _ _ ⟨HX0.out.c2.1, HX0.out.c2.2.1⟩ (fun hHeld => ?_)
  clear hK K'
  try simp only [Act.put, List.setIfInBounds_toArray, List.set_cons_zero, List.set_cons_succ]
  refine wpAnyH_ready (rs := [7]) (by kernel_rfl) (by simp) ?_
  refine AllReadyH.cons (o := ⟨some 10, _, _, _, _, _⟩) rfl (fun K' hK => ?_) AllReadyH.nil
  go_simp
  go_at_call 45
  refine (unless_any _ _ _).mono ?_
  rintro e_ v_ ⟨rfl, rfl⟩
  go_wp2_with fail
  refine hK.out _ _ ⟨HX0.out.c2.1, HX0.out.c2.2.1⟩ (fun hHeld => ?_)
  clear hK K'
  try simp only [Act.put, List.setIfInBounds_toArray, List.set_cons_zero, List.set_cons_succ]
  refine wpAnyH_ready (rs := [8]) (by kernel_rfl) (by simp) ?_
  refine AllReadyH.cons (o := ⟨some 11, _, _, _, _, _⟩) rfl (fun K' hK => ?_) AllReadyH.nil
  go_simp
  obtain ⟨g2, hg2⟩ : ∃ q, w_2.heap.size = q := ⟨_, rfl⟩
  obtain ⟨w_3, hw_3⟩ : ∃ q : World, q = w_2.alloc (.cells #[.int .i64 (unI (withinB P 0 1000000) 2), .int .i64 (unI (withinB M 0 1000000) 2)] 27) := ⟨_, rfl⟩
  try rw [← hw_3]
  have HE2 := hide (show Box w_3 g2 27 #[.int .i64 (unI (withinB P 0 1000000) 2), .int .i64 (unI (withinB M 0 1000000) 2)] by rw [hw_3]; exact Box.made hg2.symm)
  have hc_3 : Below w_2.heap.size w_2 w_3 := by rw [hw_3]; exact (Below.refl _ _).alloc (Nat.le_refl _) _
  clear hw_3
  replace HX0 := hide (HX0.out.below hc_3)
  replace HB := hide (HB.out.trans (hc_3.mono HB.out.size))
  clear hc_3
  try simp only [hg2]
  clear hg2
  refine hK.out _ _ ⟨HX0.out.c2.1, HX0.out.c2.2.1⟩ (fun hHeld => ?_)
  clear hK K'
  try simp only [Act.put, List.setIfInBounds_toArray, List.set_cons_zero, List.set_cons_succ]
  refine wpAnyH_ready (rs := [9]) (by kernel_rfl) (by simp) ?_
  refine AllReadyH.cons (o := ⟨some 12, _, _, _, _, _⟩) rfl (fun K' hK => ?_) AllReadyH.nil
  go_simp
  go_at_call 44
  refine (firstError_box g2 2 [unI (withinB P 0 1000000) 2, unI (withinB M 0 1000000) 2] _ _ rfl (by decide) HE2.out).mono ?_
  rintro e_ v_ ⟨rfl, rfl⟩
  go_wp2_with fail
  refine hK.out _ _ ⟨HX0.out.c2.1, HX0.out.c2.2.1⟩ (fun hHeld => ?_)
  clear hK K'
  try simp only [Act.put, List.setIfInBounds_toArray, List.set_cons_zero, List.set_cons_succ]
  refine wpAnyH_take (i := 10) (oi := ⟨some 2, _, _, _, _, _⟩) (v := ?_) rfl (by kernel_rfl) (by kernel_rfl) (by kernel_rfl) (fun _ _ _ h => h) (Or.inl ⟨by rfl, ?_⟩) (by assumption) ?_
  rotate_left
  · (intro w' hSw; (try dsimp only at hSw); go_simp <;> (with_reducible rfl))
  try simp only [Act.put, List.setIfInBounds_toArray, List.set_cons_zero, List.set_cons_succ]
  refine wpAnyH_done (by kernel_rfl) ?_ _
  rw [HE.out]
  go_wp2_with fail
  go_ret
  exact ⟨rfl, HB.out⟩
end Go.Proofs.Ytejhakkfgfahaaa
/- SplitOf of the code. -/
namespace Go.Proofs.Ytejhakkfgfahaaa
open Go.RowKit Go.Great
/-- What each beam gets. -/
def spV (P M : Int) (n : Nat) (X : Nat → Int) : Nat → Int := spF (lvN P X n M.toNat : Int) X (lf0 P M X n (lvN P X n M.toNat : Int))
theorem lf0_bounds {P M : Int} {X : Nat → Int} {n : Nat} (hP : 0 ≤ P) (hX : ∀ j, j < n → 0 ≤ X j) (N : Nat) : 0 ≤ lf0 P M X n (lvN P X n N : Int) ∧ lf0 P M X n (lvN P X n N : Int) ≤ P := by
  have h1 := level_does (P := P) (X := X) (n := n) (N := N) hP hX
  have h2 : ∀ k, k ≤ n → 0 ≤ usN (lvN P X n N : Int) X k := fun k => by
    induction k with
    | zero => intro _; exact Int.le_refl _
    | succ k ih =>
      intro hk
      have h3 := ih (by omega)
      have h4 := hX k (by omega)
      show 0 ≤ usN (lvN P X n N : Int) X k + min (X k) (lvN P X n N : Int)
      omega
  have h5 := h2 n (Nat.le_refl n)
  unfold lf0
  split <;> omega
set_option maxHeartbeats 8000000 in
set_option maxRecDepth 100000 in
theorem SplitOf_any (P M : Int) (A : Option Addr) (n c : Nat) (X : Nat → Int) (w : World) (hn : n ≤ 100000) (hI : IntsAt w 0 A n X) :
    Calls Try.prog 37 #[.agg #[.int .i64 P, .int .i64 M], .slice A n c] w fun e w' => ∃ B m d, e = .returned (.tuple #[.slice B m d, .int .i64 (waE P M n X)]) ∧ OrNone (waE P M n X) n m ∧ m ≤ d ∧ d ≤ 12 ∧ IntsAt w' w.heap.size B m (spV P M n X) ∧ Below w.heap.size w w' := by
  have HE := hide (show firstE [paE P M, unI (decide ((n : Int) ≤ 12)) 8, badE (fun j => inE 0 1000000 (X j)) n] = waE P M n X from rfl)
  have HZ := hide (waE_zero (P := P) (M := M) (n := n) (X := X))
  have HIT := hide (fun b1 b2 W (h : IntsAt W 0 A n X) h1 h2 => itemsError_within 0 1000000 A n c b1 b2 X W hn h h1 h2)
  have HPE := hide (fun W => panelError_any P M W)
  have HI := hide hI
  generalize waE P M n X = V at *
  obtain ⟨r, hr⟩ : ∃ z, paE P M = z := ⟨_, rfl⟩
  obtain ⟨s, hs⟩ : ∃ z, badE (fun j => inE 0 1000000 (X j)) n = z := ⟨_, rfl⟩
  simp only [hr, hs] at HE HIT HPE
  clear hI hr hs
  go_enter Try.func37, Try.ntmps37
  go_upto_region 1 with fail
  obtain ⟨w_1, hw_1⟩ : ∃ q : World, q = (w.alloc (.cells #[.int .i64 P, .int .i64 M] 67)) := ⟨_, rfl⟩
  try rw [← hw_1]
  have HX0 := hide (show Box w_1 (w.heap.size) 67 #[.int .i64 P, .int .i64 M] by rw [hw_1]; exact Box.made rfl)
  have HB := hide (show Below w.heap.size w w_1 by rw [hw_1]; (repeat (first | (with_reducible exact Below.refl _ _) | (with_reducible refine Go.below_drewN ?_ _) | (with_reducible refine Below.drew ?_) | (with_reducible refine Below.alloc ?_ (by first | exact Nat.le_refl _ | (simp; done) | (simp; omega) | omega) _) | (with_reducible refine Below.setCell ?_ (by first | exact Nat.le_refl _ | (simp; done) | (simp; omega) | omega) _))))
  clear hw_1
  obtain ⟨x0, x1, -, -, hlx⟩ := HX0.out.c2
  go_wp2_with fail
  refine (HPE.out _).mono ?_
  rintro e_ w_2 ⟨rfl, hb_2⟩
  replace HX0 := hide (HX0.out.below hb_2)
  replace HB := hide (HB.out.trans (hb_2.mono HB.out.size))
  clear hb_2
  clear x0 x1 hlx HPE
  go_wp2_with (go_at_call 45; refine (unless_any _ _ _).mono ?_; rintro e_ v_ ⟨rfl, rfl⟩)
  refine (within_clo _ _ _).mono ?_
  rintro e_ w_3 ⟨rfl, c1, c2, hb_3⟩
  replace HX0 := hide (HX0.out.below hb_3)
  replace HB := hide (HB.out.trans (hb_3.mono HB.out.size))
  clear hb_3
  go_wp2_with fail
  refine (HIT.out _ _ _ (HI.out.below HB.out) c1 c2).mono ?_
  rintro e_ w_4 ⟨rfl, hb_4⟩
  clear c1 c2 HIT
  replace HX0 := hide (HX0.out.below hb_4)
  replace HB := hide (HB.out.trans (hb_4.mono HB.out.size))
  clear hb_4
  go_wp2_with fail
  refine (firstError_laid [r, unI (decide ((n : Int) ≤ 12)) 8, s] 3 _ _ rfl (by decide)).mono ?_
  rintro e_ w_5 ⟨rfl, hw⟩
  rw [HE.out]
  have hb : Below w_4.heap.size w_4 w_5 := by rw [← hw]; exact (Below.refl _ _).alloc (Nat.le_refl _) _
  clear hw HE
  replace HX0 := hide (HX0.out.below hb)
  replace HB := hide (HB.out.trans (hb.mono HB.out.size))
  clear hb
  by_cases hv : V = 0
  case neg =>
    have tv : (V != 0) = true := by simpa using hv
    have HV := hide hv
    clear hv HZ
    go_wp2_with fail
    go_ret2
    exact ⟨none, 0, 0, rfl, ⟨fun h => absurd h HV.out, fun _ => rfl⟩, Nat.le_refl _, by decide, IntsAt.nil_, HB.out⟩
  obtain ⟨⟨⟨p0, p1⟩, m0, m1⟩, hn12, hX⟩ := HZ.out hv
  have tv : (V != 0) = false := by simpa using hv
  obtain ⟨N, rfl⟩ : ∃ N : Nat, M = (N : Int) := ⟨M.toNat, by omega⟩
  have hN : N ≤ 1000000 := by omega
  have HLV := hide (fun W (h : IntsAt W 0 A n X) => levelOf_any P N A n c X W (by omega) hN hX h)
  have HSV := hide (fun j => (show spV P (N : Int) n X j = spF (lvN P X n N : Int) X (lf0 P (N : Int) X n (lvN P X n N : Int)) j from rfl))
  obtain ⟨l0, l1⟩ := lf0_bounds (M := (N : Int)) p0 (fun j hj => (hX j hj).1) N
  have hlv := lvN_le (P := P) (X := X) (n := n) N
  have HL0 := hide (show lf0 P (N : Int) X n (lvN P X n N : Int) = if (lvN P X n N : Int) < (N : Int) then P - usN (lvN P X n N : Int) X n else 0 from rfl)
  have HUS := hide (fun W (h : IntsAt W 0 A n X) => usedAt_any (lvN P X n N : Int) A n c X W (by omega) (by omega) hX h)
  have hub := (usN_bounds (L := (lvN P X n N : Int)) (X := X) (M := 1000000) (by omega) n hX)
  obtain ⟨L, hL⟩ : ∃ z, lvN P X n N = z := ⟨_, rfl⟩
  simp only [hL] at HLV HSV l0 l1 hlv HL0 HUS hub
  obtain ⟨f, hf⟩ : ∃ z, lf0 P (N : Int) X n (L : Int) = z := ⟨_, rfl⟩
  simp only [hf] at HSV l0 l1 HL0
  obtain ⟨u, hu⟩ : ∃ z, usN (L : Int) X n = z := ⟨_, rfl⟩
  simp only [hu] at HL0 HUS hub
  have hub2 : u ≤ 12000000 := by omega
  have HX := hide hX
  obtain ⟨i0, hi, hz0, hz1, hz2⟩ := info_parts intInfo
  have hmk := fun W => run_make_row (P := Try.prog) 22 3 i0 (.int .i64 0) Try.underlying22 hi hz0 hz1 rfl .i64 .i64 n (by rw [hz2]; omega) (by omega) W
  obtain ⟨S, hS⟩ : ∃ z, spV P (N : Int) n X = z := ⟨_, rfl⟩
  simp only [hS] at HSV ⊢
  have HSS := hide hS
  have HLB := hide (fun k => lfN_bounds (r := (L : Int)) (X := X) l0 k)
  subst hv
  clear HZ hX hi hz0 hz1 hz2 hL hf hu hS
  obtain ⟨x0, x1, -, -, hlx⟩ := HX0.out.c2
  go_wp2_with fail
  refine (HLV.out _ (HI.out.below HB.out)).mono ?_
  rintro e_ w_6 ⟨rfl, hb_6⟩
  replace HX0 := hide (HX0.out.below hb_6)
  replace HB := hide (HB.out.trans (hb_6.mono HB.out.size))
  clear hb_6
  clear x0 x1 hlx HLV
  obtain ⟨x0, x1, -, -, hlx⟩ := HX0.out.c2
  have HI4 := hide (HI.out.below HB.out)
  go_upto_if 32 with fail
  go_cut [8] (fun v wx => v = .int .i64 f ∧ ∃ q, wx = w_6.drewN q)
  case first =>
    obtain ⟨bb, hbb⟩ : ∃ z, decide (L < N) = z := ⟨_, rfl⟩
    simp only [hbb]
    cases bb
    · have hlm : ¬ (L : Int) < (N : Int) := by have := of_decide_eq_false hbb; omega
      have HF0 := hide (HL0.out.trans (if_neg hlm))
      clear hlm hbb
      go_wp2_with fail
      go_meet
      case rel => exact ⟨by rw [HF0.out], 0, rfl⟩
    · have hlm : (L : Int) < (N : Int) := by have := of_decide_eq_true hbb; omega
      have q1 : IntKind.i64.wrap (P - u) = f := by rw [HL0.out, if_pos hlm]; exact IntWalk.i64_in _ (by omega)
      clear hlm hbb
      go_wp2_with fail
      go_quiet ((go_at_call 67; exact Calls.quiet_of_same ((HUS.out _ (by exact HI4.out)).mono fun _ _ h => ⟨h.1, h.2.symm⟩)))
      go_wp2_with fail
      go_meet
      case rel => exact ⟨rfl, _, rfl⟩
  case rest =>
    obtain ⟨rfl, q, rfl⟩ := hcut
    have HBq := hide (show Below w.heap.size w (w_6.drewN q) from ⟨HB.out.os, HB.out.tape, HB.out.output, HB.out.size, HB.out.block⟩)
    obtain ⟨wD, hwD⟩ : ∃ z : World, w_6.drewN q = z := ⟨_, rfl⟩
    rw [hwD] at HBq ⊢
    clear hwD x0 x1 hlx HUS HL0 HX0 HB HI4
    go_wp2_with fail
    clear hmk
    obtain ⟨g9, hg9⟩ : ∃ z, wD.heap.size = z := ⟨_, rfl⟩
    have le9 : w.heap.size ≤ g9 := by rw [← hg9]; exact HBq.out.size
    try simp only [hg9]
    go_loopw [8, 44] (fun a i wr => ∃ k : Nat, k ≤ n ∧ i = .int .i64 (k : Int) ∧ a = .int .i64 (lfN (L : Int) X f k) ∧ wr.rowIs g9 3 n (fun j => .int .i64 (if j < k then S j else 0)) ∧ Below w.heap.size w wr) (fun _ i _ => n - (Go.RowKit.intOf i).toNat)
    case atStart =>
      refine ⟨0, Nat.zero_le _, rfl, rfl, ?_, HBq.out.alloc HBq.out.size _⟩
      have h := World.rowIs_made wD (.int .i64 0) n 3
      rw [hg9] at h
      exact h.congr (fun _ _ => by simp)
    case round =>
      clear hg9 HBq
      obtain ⟨k, hk, rfl, rfl, hR, hB⟩ := hrel
      obtain ⟨wA, rfl⟩ : ∃ x : World, x = wr := ⟨_, rfl⟩
      by_cases hlt : k < n
      · have hltz : (k : Int) < (n : Int) := by omega
        obtain ⟨b, o, rfl, -, hbl, hcell⟩ := (HI.out.below hB) k hlt
        have hx := HX.out k hlt
        have hc2 := hR.cell hlt
        have hf2 := hR.frozen k
        have hl9 := hR.lt
        have hfb := HLB.out k
        have HF1 := hide (show lfN (L : Int) X f (k + 1) = if (L : Int) < X k ∧ 0 < lfN (L : Int) X f k then lfN (L : Int) X f k - 1 else lfN (L : Int) X f k from rfl)
        have HS1 := hide (show S k = if (L : Int) < X k ∧ 0 < lfN (L : Int) X f k then min (X k) (L : Int) + 1 else min (X k) (L : Int) from HSV.out k)
        obtain ⟨x, hxx⟩ : ∃ z, X k = z := ⟨_, rfl⟩
        obtain ⟨l, hll⟩ : ∃ z, lfN (L : Int) X f k = z := ⟨_, rfl⟩
        rw [hxx] at hcell hx HF1 HS1
        rw [hll] at hfb HF1 HS1
        simp only [hll]
        obtain ⟨m, hm⟩ : ∃ z, min x (L : Int) = z := ⟨_, rfl⟩
        rw [hm] at HS1
        have hmb : 0 ≤ m ∧ m ≤ 1000000 := by omega
        have q1 : IntKind.i64.wrap (m + 1) = m + 1 := IntWalk.i64_in _ (by omega)
        have q2 : IntKind.i64.wrap (l - 1) = l - 1 := IntWalk.i64_in _ (by omega)
        by_cases h1 : (L : Int) < x
        · have t1 : decide ((L : Int) < x) = true := by simpa using h1
          by_cases h2 : 0 < l
          · have t2 : decide (0 < l) = true := by simpa using h2
            rw [if_pos ⟨h1, h2⟩] at HF1 HS1
            clear hxx hll hx hfb hmb h1 h2
            go_wp2_with fail
            try simp only [hm]
            go_roundw
            case rel =>
              exact ⟨k + 1, by omega, by go_num, by rw [HF1.out], ((hR.set k _).set k _).congr (fun y _ => by
                  by_cases e : y = k
                  · subst e
                    rw [if_pos rfl, if_pos (Nat.lt_succ_self _), HS1.out]
                  · rw [if_neg e, if_neg e]
                    by_cases e2 : y < k
                    · rw [if_pos e2, if_pos (by omega)]
                    · rw [if_neg e2, if_neg (by omega)]), (hB.setCell le9 _).setCell le9 _⟩
            case measure => simp [Go.RowKit.intOf]; omega
          · have t2 : decide (0 < l) = false := by simpa using h2
            rw [if_neg (fun h => h2 h.2)] at HF1 HS1
            clear hxx hll hx hfb hmb h1 h2
            go_wp2_with fail
            try simp only [hm]
            go_roundw
            case rel =>
              exact ⟨k + 1, by omega, by go_num, by rw [HF1.out], (hR.set k _).congr (fun y _ => by
                  by_cases e : y = k
                  · subst e
                    rw [if_pos rfl, if_pos (Nat.lt_succ_self _), HS1.out]
                  · rw [if_neg e]
                    by_cases e2 : y < k
                    · rw [if_pos e2, if_pos (by omega)]
                    · rw [if_neg e2, if_neg (by omega)]), hB.setCell le9 _⟩
            case measure => simp [Go.RowKit.intOf]; omega
        · have t1 : decide ((L : Int) < x) = false := by simpa using h1
          rw [if_neg (fun h => h1 h.1)] at HF1 HS1
          clear hxx hll hx hfb hmb h1
          go_wp2_with fail
          try simp only [hm]
          go_roundw
          case rel =>
            exact ⟨k + 1, by omega, by go_num, by rw [HF1.out], (hR.set k _).congr (fun y _ => by
                by_cases e : y = k
                · subst e
                  rw [if_pos rfl, if_pos (Nat.lt_succ_self _), HS1.out]
                · rw [if_neg e]
                  by_cases e2 : y < k
                  · rw [if_pos e2, if_pos (by omega)]
                  · rw [if_neg e2, if_neg (by omega)]), hB.setCell le9 _⟩
          case measure => simp [Go.RowKit.intOf]; omega
      · obtain rfl : k = n := by omega
        go_wp2_with fail
        go_ret2
        exact ⟨_, k, k, rfl, ⟨fun _ => rfl, fun h => absurd rfl h⟩, Nat.le_refl _, hn12, IntsAt.of_row (hR.congr fun j hj => by rw [if_pos hj, ← HSS.out]) le9, hB⟩
end Go.Proofs.Ytejhakkfgfahaaa
