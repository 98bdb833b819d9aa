/- Lemmas: S51. -/
import Derived.StillTailTactics
import Derived.Test.YtonmkmaeohfjpaaBk21
set_option linter.unusedVariables false
set_option linter.unusedSimpArgs false
/- Next of the reference, on a register that is right. -/
namespace Go.Proofs.Ytonmkmaeohfjpaa
open Go Go.RowKit Go.Lib
theorem regSum_bits {S T : Nat → Int} {L : Nat} (hS : ∀ j, j < L → IsBit (S j)) : ∀ {n : Nat}, (∀ i, i < n → (T i).toNat < L) → 0 ≤ regSum S T n ∧ regSum S T n ≤ n
  | 0, _ => ⟨Int.le_refl _, by show (0 : Int) ≤ ((0 : Nat) : Int); omega⟩
  | n + 1, h => by
    have h1 := regSum_bits hS (n := n) fun i hi => h i (by omega)
    have h2 := (hS _ (h n (Nat.lt_succ_self n))).le
    show 0 ≤ regSum S T n + S (T n).toNat ∧ regSum S T n + S (T n).toNat ≤ ((n + 1 : Nat) : Int)
    omega
theorem intsOther {w : World} {lo n : Nat} {A : Option Addr} {F : Nat → Int} {p : Addr} (h : IntsAt w lo A n F) (hp : ∀ b o, A = some ⟨b, o, none⟩ → b ≠ p.block) (u : Value) : IntsAt (w.setCell p u) lo A n F := fun k hk => by
  obtain ⟨b, o, e, h1, h2, h3⟩ := h k hk
  have hne := hp b o e
  exact ⟨b, o, e, h1, by simpa [World.setCell] using h2, (World.cell?_setCell_other w p ⟨b, o + k, none⟩ u (fun e => by subst e; exact hne rfl)).trans h3⟩
theorem intsLo {w : World} {lo n : Nat} {A : Option Addr} {F : Nat → Int} (h : IntsAt w 0 A n F) (hl : ∀ b o, A = some ⟨b, o, none⟩ → lo ≤ b) : IntsAt w lo A n F := fun k hk => by
  obtain ⟨b, o, e, -, h2, h3⟩ := h k hk
  exact ⟨b, o, e, hl b o e, h2, h3⟩
set_option maxHeartbeats 16000000 in
set_option maxRecDepth 100000 in
theorem NextR_any (A B : Option Addr) (n c m d : Nat) (T S : Nat → Int) (w : World) (hok : RegOk (m + 1) n T S) (hc : n ≤ c) (hd : m + 1 ≤ d) (hd9 : d ≤ 9223372036854775807) (hT : IntsAt w 0 A n T) (hS : IntsAt w 0 B (m + 1) S) :
    Calls Try.prog 25 #[.agg #[.int .i64 ((m : Int) + 1), .slice A n c, .slice B (m + 1) d]] w fun e w' => ∃ C f D k, e = .returned (.tuple #[.int .i64 (S 0), .agg #[.int .i64 ((m : Int) + 1), .slice C n f, .slice D (m + 1) k]]) ∧ IntsAt w' w.heap.size C n T ∧ IntsAt w' w.heap.size D (m + 1) (nextS (m + 1) n T S) ∧ n ≤ f ∧ m + 1 ≤ k ∧ k ≤ 9223372036854775807 ∧ Below w.heap.size w w' := by
  have hn10 := hok.count
  have hm9 := hok.most
  have hn1 := hok.some_
  have HTT := hide hT
  have HSS := hide hS
  have HOK := hide hok
  have HCO := hide (fun W h1 h2 => CopyRegister_any ((m : Int) + 1) A B n c (m + 1) d T S W (by omega) (by omega) h1 h2)
  have HRB := hide (fun k (hk : k ≤ n) => regSum_bits (S := S) (T := T) hok.bits (n := k) fun i hi => hok.low i (by omega))
  obtain ⟨b0, o0, rfl⟩ := intsAt_some hS (by omega)
  obtain ⟨bT, oT, rfl⟩ := intsAt_some hT hn1
  clear hT hS hok
  have HNS := hide (show (fun j => if j + 1 < m + 1 then S (j + 1) else regSum S T n % 2) = nextS (m + 1) n T S from rfl)
  obtain ⟨V, hV⟩ : ∃ z, nextS (m + 1) n T S = z := ⟨_, rfl⟩
  rw [hV] at HNS ⊢
  clear hV
  obtain ⟨s0, hs0⟩ : ∃ z, S 0 = z := ⟨_, rfl⟩
  rw [hs0]
  have HS0 := hide hs0
  clear hs0
  go_enter Try.func25, Try.ntmps25
  go_upto_region 1 with fail
  obtain ⟨w1, hw1⟩ : ∃ z : World, z = (w.alloc (.cells #[.int .i64 ((m : Int) + 1), .slice (some ⟨bT, oT, none⟩) n c, .slice (some ⟨b0, o0, none⟩) (m + 1) d] 24)).alloc (.cells #[.int .i64 0, .slice none 0 0, .slice none 0 0] 24) := ⟨_, rfl⟩
  try rw [← hw1]
  obtain ⟨b1, hb1⟩ : ∃ z, w.heap.size = z := ⟨_, rfl⟩
  obtain ⟨b3, hb3⟩ : ∃ z, b1 + 1 = z := ⟨_, rfl⟩
  have HX1 := hide (show Box w1 b1 24 #[.int .i64 ((m : Int) + 1), .slice (some ⟨bT, oT, none⟩) n c, .slice (some ⟨b0, o0, none⟩) (m + 1) d] by rw [hw1]; exact (Box.made hb1.symm).alloc _)
  have HX3 := hide (show Box w1 b3 24 #[.int .i64 0, .slice none 0 0, .slice none 0 0] by rw [hw1]; exact Box.made (by simp; omega))
  have HB := hide (show Below b1 w w1 by rw [hw1, ← hb1]; (repeat (first | (with_reducible exact Below.refl _ _) | (with_reducible refine Go.below_drewN ?_ _) | (with_reducible refine Below.drew ?_) | (with_reducible refine Below.alloc ?_ (by first | exact Nat.le_refl _ | (simp; done) | (simp; omega) | omega) _) | (with_reducible refine Below.setCell ?_ (by first | exact Nat.le_refl _ | (simp; done) | (simp; omega) | omega) _))))
  have HBW := hide (show ∀ W, Below b1 w W → Below w.heap.size w W from fun W h => by rw [hb1]; exact h)
  try simp only [hb1, hb3]
  clear hw1
  go_wp2_with fail
  go_loopw [4, 5] (fun s i wr => ∃ k : Nat, k ≤ n ∧ i = .int .i64 (k : Int) ∧ s = .int .i64 (regSum S T k) ∧ Hid (Box wr b1 24 #[.int .i64 ((m : Int) + 1), .slice (some ⟨bT, oT, none⟩) n c, .slice (some ⟨b0, o0, none⟩) (m + 1) d]) ∧ Hid (Box wr b3 24 #[.int .i64 0, .slice none 0 0, .slice none 0 0]) ∧ Hid (Below b1 w wr)) (fun _ i _ => n - (Go.RowKit.intOf i).toNat)
  case atStart => exact ⟨0, Nat.zero_le _, rfl, rfl, HX1, HX3, HB⟩
  case round =>
    clear HX1 HX3 HB
    obtain ⟨k, hk, rfl, rfl, HX1, HX3, HB⟩ := hrel
    obtain ⟨wA, rfl⟩ : ∃ x : World, x = wr := ⟨_, rfl⟩
    by_cases hlt : k < n
    case pos =>
      have hltz : (k : Int) < (n : Int) := by omega
      obtain ⟨c0, c1, c2, hlz⟩ := rec_cells HX1.out
      have y0 := intsAt_cellK (HTT.out.below (HBW.out _ HB.out)) hlt
      have htk := HOK.out.taps k hlt
      have hrb := HRB.out k hk
      have hrb1 := HRB.out (k + 1) hlt
      have HST := hide (show regSum S T (k + 1) = regSum S T k + S (T k).toNat from rfl)
      obtain ⟨t, ht⟩ : ∃ t : Nat, T k = (t : Int) := ⟨(T k).toNat, by omega⟩
      rw [ht] at y0 htk HST
      rw [show ((t : Int)).toNat = t from rfl] at HST
      have y1 := intsAt_cellK (HSS.out.below (HBW.out _ HB.out)) (show t < m + 1 by omega)
      obtain ⟨u, hu⟩ : ∃ z, S t = z := ⟨_, rfl⟩
      rw [hu] at y1 HST
      obtain ⟨r, hr⟩ : ∃ z, regSum S T k = z := ⟨_, rfl⟩
      rw [hr] at hrb HST ⊢
      rw [HST.out] at hrb1
      obtain ⟨r2, hr2⟩ : ∃ z, r + u = z := ⟨_, rfl⟩
      rw [hr2] at HST hrb1
      have q1 : IntKind.i64.wrap (r + u) = r2 := by rw [hr2]; exact IntWalk.i64_in _ (by omega)
      have htm : t < m + 1 := by omega
      have htz : (t : Int) < ((m + 1 : Nat) : Int) := by omega
      have ht0 : (0 : Int) ≤ (t : Int) := by omega
      clear ht hu hr hr2
      go_wp2_with fail
      go_quiet (fail)
      go_wp2_with fail
      clear c0 c1 c2 hlz y0 y1
      go_roundw
      case rel => exact ⟨k + 1, by omega, by go_num, by rw [HST.out], hide (HX1.out.drewN _), hide (HX3.out.drewN _), hide (Go.below_drewN HB.out _)⟩
      case measure => simp [Go.RowKit.intOf]; omega
    obtain rfl : n = k := by omega
    have hltz : ¬ (n : Int) < (n : Int) := by omega
    have hrb := HRB.out n (Nat.le_refl _)
    obtain ⟨r, hr⟩ : ∃ z, regSum S T n = z := ⟨_, rfl⟩
    rw [hr] at HNS hrb ⊢
    have q2 : r.tmod 2 = r % 2 := by rw [Int.tmod_eq_emod_of_nonneg hrb.1]
    clear hr HRB hk hlt
    obtain ⟨c0, c1, c2, hlz⟩ := rec_cells HX1.out
    go_wp2_with fail
    clear c0 c1 c2
    refine (HCO.out _ (HTT.out.below (HBW.out _ HB.out)) (HSS.out.below (HBW.out _ HB.out))).mono ?_
    rintro e w2 ⟨C, f, D, k, rfl, ho1, ho2, hb2, hcd⟩
    have hsA := HX3.out.lt
    have hsA1 := HX1.out.lt
    replace HX1 := hide (HX1.out.below hb2)
    replace HX3 := hide (HX3.out.below hb2)
    replace HB := hide (HB.out.trans (hb2.mono (by omega)))
    obtain ⟨gD, k', eD, hk1, hk2⟩ := own_form ho2 (by omega)
    injection eD with eD _ eD2
    subst eD; subst eD2
    obtain ⟨gC, f', eC, hf1, hf2⟩ := own_form ho1 hn1
    injection eC with eC _ eC2
    subst eC; subst eC2
    have hgD : wA.heap.size ≤ gD ∧ gD < w2.heap.size := (ownV_at (w' := w2) (v' := Value.slice none 0 0) ho2 rfl)
    have hgC : wA.heap.size ≤ gC ∧ gC < w2.heap.size := (ownV_at (w' := w2) (v' := Value.slice none 0 0) ho1 rfl)
    have hCD : gC < gD := hcd _ _ _ _ rfl rfl
    clear hcd
    have HOC := hide (ho1.atG (lo := 0) (Nat.zero_le _))
    have HOD := hide (show OwnInts w2 (b3 + 1) (.slice (some ⟨gD, 0, none⟩) (m + 1) k) (m + 1) S from ownS_weak ho2 (by omega))
    have hD3 : b3 < gD := by omega
    clear ho1 ho2 hb2 HCO
    go_upto_region 7 with fail
    obtain ⟨b6, hb6⟩ : ∃ z, w2.heap.size = z := ⟨_, rfl⟩
    obtain ⟨w3, hw3⟩ : ∃ z : World, z = w2.alloc (.cells #[.int .i64 ((m : Int) + 1), .slice (some ⟨gC, 0, none⟩) n f, .slice (some ⟨gD, 0, none⟩) (m + 1) k] 24) := ⟨_, rfl⟩
    try rw [← hw3]
    have HX6 := hide (show Box w3 b6 24 #[.int .i64 ((m : Int) + 1), .slice (some ⟨gC, 0, none⟩) n f, .slice (some ⟨gD, 0, none⟩) (m + 1) k] by rw [hw3]; exact Box.made hb6.symm)
    have hc3 : Below w2.heap.size w2 w3 := by rw [hw3]; (repeat (first | (with_reducible exact Below.refl _ _) | (with_reducible refine Go.below_drewN ?_ _) | (with_reducible refine Below.drew ?_) | (with_reducible refine Below.alloc ?_ (by first | exact Nat.le_refl _ | (simp; done) | (simp; omega) | omega) _) | (with_reducible refine Below.setCell ?_ (by first | exact Nat.le_refl _ | (simp; done) | (simp; omega) | omega) _)))
    replace HX1 := hide (HX1.out.below hc3)
    replace HX3 := hide (HX3.out.below hc3)
    replace HOC := hide (HOC.out.below hc3)
    replace HOD := hide (HOD.out.below hc3)
    replace HB := hide (HB.out.trans (hc3.mono (by have := HX1.out.lt; omega)))
    have hD6 : gD < b6 := by omega
    try simp only [hb6]
    clear hw3 hc3 hb6
    obtain ⟨x0, x1, x2, hlx⟩ := rec_cells HX6.out
    have hk1z : (1 : Int) ≤ (k : Int) := by omega
    have hm1z : (1 : Int) ≤ ((m + 1 : Nat) : Int) := by omega
    have hms : m + 1 - 1 = m := by omega
    have htwo := HOK.out.two
    have hkn : ¬ k = 1 := by omega
    have hf6 := HX6.out.free 2
    go_wp2_with (at_builtin; refine wpList_append_rest _ rfl (.tmp 29) (.tmp 32) rfl (b3 + 1) gD m k S (r % 2) (HOD.out.alloc _) (by first | rfl | (go_simp; done)) w3.heap.size rfl ((Box.made rfl : Box _ w3.heap.size 3 #[.int .i64 (r % 2)]).at_ 0) (by omega) (by simp; omega) ?_; intro D9 d9 w9 hi9 hd9 hd99 hb9 hg9 ha9; obtain ⟨z0, z1, z2, zl⟩ := rec_cells (hg9.box (HX6.out.alloc _) (by omega)); have zf := (hg9.box (HX6.out.alloc _) (by omega)).free 2)
    have h36 : b3 < b6 := by omega
    have hs3 : b6 < w3.heap.size := HX6.out.lt
    have hs9 : w3.heap.size + 1 ≤ w9.heap.size := by have := hg9.size; simpa using this
    have HY6 := hide ((hg9.box (HX6.out.alloc (.cells #[.int .i64 (r % 2)] 3)) (by omega)).r3put2 (.slice D9 (m + 1) d9))
    have HY1 := hide ((hg9.box (HX1.out.alloc (.cells #[.int .i64 (r % 2)] 3)) (by omega)).other (p := ⟨b6, 2, none⟩) (by show b1 ≠ b6; omega) (.slice D9 (m + 1) d9))
    have HY3 := hide ((hg9.box (HX3.out.alloc (.cells #[.int .i64 (r % 2)] 3)) (by omega)).other (p := ⟨b6, 2, none⟩) (by show b3 ≠ b6; omega) (.slice D9 (m + 1) d9))
    have HYC := hide (intsOther (p := ⟨b6, 2, none⟩) ((HOC.out.alloc (.cells #[.int .i64 (r % 2)] 3)).grownI hg9 (fun b o e => by injection e with e; injection e with e; intro h; injection h with h; omega)) (fun b o e => by injection e with e; injection e with e; show b ≠ b6; omega) (.slice D9 (m + 1) d9))
    have hDb : ∀ b o, D9 = some ⟨b, o, none⟩ → b ≠ b6 := by intro b o e; have h8 : b = gD ∨ w3.heap.size + 1 ≤ b := (by have := ha9 b o e; simpa using this); omega
    have HA9 := hide ha9
    have HYD := hide (intsOther (p := ⟨b6, 2, none⟩) hi9 hDb (.slice D9 (m + 1) d9))
    rw [HNS.out] at HYD
    have HYB := hide (((HB.out.alloc (by have := HX1.out.lt; omega) (.cells #[.int .i64 (r % 2)] 3)).trans (hb9.mono (by omega))).setCell (p := ⟨b6, 2, none⟩) (by show b1 ≤ b6; omega) (.slice D9 (m + 1) d9))
    obtain ⟨wF, hwF⟩ : ∃ z : World, w9.setCell ⟨b6, 2, none⟩ (.slice D9 (m + 1) d9) = z := ⟨_, rfl⟩
    rw [hwF] at HY6 HY1 HY3 HYC HYD HYB ⊢
    clear hwF z0 z1 z2 zl zf hi9 hb9 hg9 ha9 HX6 HX1 HX3 HOC HOD HB x0 x1 x2 hlx hf6 hs9
    have hy0 : ∀ W, Below b1 w W → W.cell? ⟨b0, o0, none⟩ = some (.int .i64 (S 0)) := fun W h => by have := intsAt_cellK (HSS.out.below (HBW.out _ h)) (show 0 < m + 1 by omega); rwa [Nat.add_zero] at this
    have HY0 := hide hy0
    rw [HS0.out] at HY0
    clear hy0
    have hC3 : ∀ b o, some (⟨gC, 0, none⟩ : Addr) = some ⟨b, o, none⟩ → b ≠ b3 := fun b o e => by injection e with e; injection e with e; omega
    have hDD3 : ∀ b o, D9 = some ⟨b, o, none⟩ → b ≠ b3 := by intro b o e; have h8 : b = gD ∨ w3.heap.size + 1 ≤ b := (by simpa using HA9.out b o e); omega
    have hLC : ∀ b o, some (⟨gC, 0, none⟩ : Addr) = some ⟨b, o, none⟩ → w.heap.size ≤ b := fun b o e => by injection e with e; injection e with e; omega
    have hLD : ∀ b o, D9 = some ⟨b, o, none⟩ → w.heap.size ≤ b := by intro b o e; have h8 : b = gD ∨ w3.heap.size + 1 ≤ b := (by simpa using HA9.out b o e); omega
    refine wp_region_held_drew (S := fun w' => w'.cell? ⟨b1, 2, none⟩ = some (.slice (some ⟨b0, o0, none⟩) (m + 1) d) ∧ w'.cell? ⟨b0, o0, none⟩ = some (.int .i64 s0) ∧ w'.cell? ⟨b6, 0, none⟩ = some (.int .i64 ((m : Int) + 1)) ∧ w'.cell? ⟨b6, 1, none⟩ = some (.slice (some ⟨gC, 0, none⟩) n f) ∧ w'.cell? ⟨b6, 2, none⟩ = some (.slice D9 (m + 1) d9)) (by kernel_rfl) ⟨HY1.out.at_ 2, HY0.out _ HYB.out.drew, HY6.out.at_ 0, HY6.out.at_ 1, HY6.out.at_ 2⟩ (fun hHeld => ?_)
    obtain ⟨w_1, hw_1⟩ : ∃ q : World, q = wF.drew := ⟨_, rfl⟩
    rw [← hw_1] at hHeld ⊢
    have hc_1 : Below wF.heap.size wF w_1 := by rw [hw_1]; exact (Below.refl _ _).drew
    clear hw_1
    replace HY6 := hide (HY6.out.below hc_1)
    replace HY1 := hide (HY1.out.below hc_1)
    replace HY3 := hide (HY3.out.below hc_1)
    replace HYC := hide (HYC.out.below hc_1)
    replace HYD := hide (HYD.out.below hc_1)
    replace HYB := hide (HYB.out.trans (hc_1.mono (by have := HYB.out.size; omega)))
    clear hc_1
    refine wpAnyH_take (i := 0) (oi := ⟨some 35, _, _, _, _, _⟩) (v := ?_) rfl (by kernel_rfl) (by kernel_rfl) (by kernel_rfl) (fun _ _ _ h => h) (Or.inl ⟨by rfl, ?_⟩) (by assumption) ?_
    rotate_left
    · (intro w' hSw; (try dsimp only at hSw); go_simp <;> (with_reducible rfl))
    try simp only [Act.put, List.setIfInBounds_toArray, List.set_cons_zero, List.set_cons_succ]
    refine wpAnyH_take (i := 1) (oi := ⟨some 36, _, _, _, _, _⟩) (v := ?_) rfl (by kernel_rfl) (by kernel_rfl) (by kernel_rfl) (fun _ _ _ h => h) (Or.inl ⟨by rfl, ?_⟩) (by assumption) ?_
    rotate_left
    · (intro w' hSw; (try dsimp only at hSw); go_simp <;> (with_reducible rfl))
    try simp only [Act.put, List.setIfInBounds_toArray, List.set_cons_zero, List.set_cons_succ]
    refine wpAnyH_take (i := 2) (oi := ⟨some 37, _, _, _, _, _⟩) (v := ?_) rfl (by kernel_rfl) (by kernel_rfl) (by kernel_rfl) (fun _ _ _ h => h) (Or.inl ⟨by rfl, ?_⟩) (by assumption) ?_
    rotate_left
    · (intro w' hSw; (try dsimp only at hSw); go_simp <;> (with_reducible rfl))
    try simp only [Act.put, List.setIfInBounds_toArray, List.set_cons_zero, List.set_cons_succ]
    refine wpAnyH_take (i := 3) (oi := ⟨some 38, _, _, _, _, _⟩) (v := ?_) rfl (by kernel_rfl) (by kernel_rfl) (by kernel_rfl) (fun _ _ _ h => h) (Or.inl ⟨by rfl, ?_⟩) (by assumption) ?_
    rotate_left
    · (intro w' hSw; (try dsimp only at hSw); go_simp <;> (with_reducible rfl))
    try simp only [Act.put, List.setIfInBounds_toArray, List.set_cons_zero, List.set_cons_succ]
    refine wpAnyH_take (i := 4) (oi := ⟨some 39, _, _, _, _, _⟩) (v := ?_) rfl (by kernel_rfl) (by kernel_rfl) (by kernel_rfl) (fun _ _ _ h => h) (Or.inl ⟨by rfl, ?_⟩) (by assumption) ?_
    rotate_left
    · (intro w' hSw; (try dsimp only at hSw); go_simp <;> (with_reducible rfl))
    try simp only [Act.put, List.setIfInBounds_toArray, List.set_cons_zero, List.set_cons_succ]
    refine wpAnyH_take (i := 5) (oi := ⟨some 2, _, _, _, _, _⟩) (v := ?_) rfl (by kernel_rfl) (by kernel_rfl) (by kernel_rfl) (fun _ _ _ h => h) (Or.inl ⟨by rfl, ?_⟩) (by assumption) ?_
    rotate_left
    · (intro w' hSw; (try dsimp only at hSw); go_simp <;> (with_reducible rfl))
    try simp only [Act.put, List.setIfInBounds_toArray, List.set_cons_zero, List.set_cons_succ]
    refine wpAnyH_ready (rs := [6]) (by kernel_rfl) (by simp) ?_
    refine AllReadyH.cons (o := ⟨none, _, _, _, _, _⟩) rfl (fun K' hK => ?_) AllReadyH.nil
    obtain ⟨x0, x1, x2, f0, f1, f2, hlx⟩ := HY3.out.r3
    go_simp
    clear x0 x1 x2 f0 f1 f2 hlx
    have HZC := hide (intsOther (p := ⟨b3, 2, none⟩) (intsOther (p := ⟨b3, 1, none⟩) (intsOther (p := ⟨b3, 0, none⟩) HYC.out hC3 (.int .i64 ((m : Int) + 1))) hC3 (.slice (some ⟨gC, 0, none⟩) n f)) hC3 (.slice D9 (m + 1) d9))
    have HZD := hide (intsOther (p := ⟨b3, 2, none⟩) (intsOther (p := ⟨b3, 1, none⟩) (intsOther (p := ⟨b3, 0, none⟩) HYD.out hDD3 (.int .i64 ((m : Int) + 1))) hDD3 (.slice (some ⟨gC, 0, none⟩) n f)) hDD3 (.slice D9 (m + 1) d9))
    replace HY6 := hide (((HY6.out.other (p := ⟨b3, 0, none⟩) (by show b6 ≠ b3; omega) (.int .i64 ((m : Int) + 1))).other (p := ⟨b3, 1, none⟩) (by show b6 ≠ b3; omega) (.slice (some ⟨gC, 0, none⟩) n f)).other (p := ⟨b3, 2, none⟩) (by show b6 ≠ b3; omega) (.slice D9 (m + 1) d9))
    replace HY1 := hide (((HY1.out.other (p := ⟨b3, 0, none⟩) (by show b1 ≠ b3; omega) (.int .i64 ((m : Int) + 1))).other (p := ⟨b3, 1, none⟩) (by show b1 ≠ b3; omega) (.slice (some ⟨gC, 0, none⟩) n f)).other (p := ⟨b3, 2, none⟩) (by show b1 ≠ b3; omega) (.slice D9 (m + 1) d9))
    replace HY3 := hide (HY3.out.r3putAll (.int .i64 ((m : Int) + 1)) (.slice (some ⟨gC, 0, none⟩) n f) (.slice D9 (m + 1) d9))
    replace HYB := hide (((HYB.out.setCell (p := ⟨b3, 0, none⟩) (by show b1 ≤ b3; omega) (.int .i64 ((m : Int) + 1))).setCell (p := ⟨b3, 1, none⟩) (by show b1 ≤ b3; omega) (.slice (some ⟨gC, 0, none⟩) n f)).setCell (p := ⟨b3, 2, none⟩) (by show b1 ≤ b3; omega) (.slice D9 (m + 1) d9))
    obtain ⟨w_2, hw_2⟩ : ∃ z : World, ((w_1.setCell ⟨b3, 0, none⟩ (.int .i64 ((m : Int) + 1))).setCell ⟨b3, 1, none⟩ (.slice (some ⟨gC, 0, none⟩) n f)).setCell ⟨b3, 2, none⟩ (.slice D9 (m + 1) d9) = z := ⟨_, rfl⟩
    rw [hw_2] at HY6 HY1 HY3 HYB HZC HZD ⊢
    clear hw_2 HYC HYD
    refine hK.out _ _ ⟨HY1.out.at_ 2, HY0.out _ HYB.out, HY6.out.at_ 0, HY6.out.at_ 1, HY6.out.at_ 2⟩ (fun hHeld => ?_)
    clear hK K'
    try simp only [Act.put, List.setIfInBounds_toArray, List.set_cons_zero, List.set_cons_succ]
    refine wpAnyH_done (by kernel_rfl) ?_ _
    clear hHeld
    go_wp2_with fail
    obtain ⟨z0, z1, z2, -, -, -, -⟩ := HY3.out.r3
    refine bodyPost_ret (v := .tuple #[.int .i64 s0, .agg #[.int .i64 ((m : Int) + 1), .slice (some ⟨gC, 0, none⟩) n f, .slice D9 (m + 1) d9]]) ?_ rfl ⟨some ⟨gC, 0, none⟩, f, D9, d9, rfl, intsLo HZC.out hLC, intsLo HZD.out hLD, hf1, hd9, hd99, HBW.out _ HYB.out⟩
    simp [results, Try.results25, go_sem, z0, z1, z2]
end Go.Proofs.Ytonmkmaeohfjpaa
