/- Lemmas: KMa, KMc, KMi, KNa, KLc, KLh, KNc, KNf, Bs. -/
import Derived.Test.YtcdplfjegopmdaaGreatBk01
import Derived.Test.YtcdplfjegopmdaaGreatBk02
import Derived.Test.YtcdplfjegopmdaaGreatBk03
import Derived.Test.YtcdplfjegopmdaaGreatBk04
import Derived.Test.YtcdplfjegopmdaaGreatBk05
import Derived.Test.YtcdplfjegopmdaaGreatBk06
set_option linter.unusedVariables false
set_option linter.unusedSimpArgs false
/- Ma of chapter 02, in a namespace of its own. -/
namespace Go.Proofs.YtcdplfjegopmdaaGreat.K
open Go.RowKit Go.Shelf
section
variable {w w' : World} {lo n : Nat} {A : Option Addr} {L : Nat → Nat} {F : Nat → Nat → Int}
theorem _root_.Go.Proofs.YtcdplfjegopmdaaGreat.IntsAt.block {b o k : Nat} {G : Nat → Int} (h : IntsAt w lo (some ⟨b, o, none⟩) n G) (hk : k < n) : lo ≤ b ∧ b < w.heap.size := by
  obtain ⟨b', o', e, h1, h2, -⟩ := h k hk
  injection e with e; injection e with e1 e2; subst e1
  exact ⟨h1, h2⟩
end
theorem _root_.Go.Proofs.YtcdplfjegopmdaaGreat.OwnInts.block {w : World} {base n c b o : Nat} {m : Option Nat} {F : Nat → Int} (h : OwnInts w base (.slice (some ⟨b, o, none⟩) n c) n F) : base ≤ b ∧ b < w.heap.size := by
  rcases h.2 with ⟨h1, -⟩ | ⟨g, cap, cur, h1, hb, hg, -⟩
  · simp at h1
  · injection h1 with e1; injection e1 with e1; injection e1 with e1; subst e1
    exact ⟨hb, (Array.getElem?_eq_some_iff.1 hg).1⟩
section
variable {w w' : World} {base n : Nat} {v : Value} {L : Nat → Nat} {F : Nat → Nat → Int}
end
theorem _root_.Go.Proofs.YtcdplfjegopmdaaGreat.IntsAt.grown {w w' : World} {lo n : Nat} {A : Option Addr} {G : Nat → Int} {row : Option Nat} (h : IntsAt w lo A n G) (hg : w.grownBy w' row) (ha : ∀ b o, A = some ⟨b, o, none⟩ → row ≠ some b) : IntsAt w' lo A n G := fun k hk => by
  obtain ⟨b, o, e, h1, h2, h3⟩ := h k hk
  exact ⟨b, o, e, h1, Nat.lt_of_lt_of_le h2 hg.size, (World.cell?_of_block (a := ⟨b, o + k, none⟩) (hg.block b h2 (fun x => ha b o e x.symm))).trans h3⟩
end Go.Proofs.YtcdplfjegopmdaaGreat.K
/- Mc of chapter 02, in a namespace of its own. -/
namespace Go.Proofs.YtcdplfjegopmdaaGreat.K
open Go.RowKit Go.Shelf
theorem _root_.Go.Proofs.YtcdplfjegopmdaaGreat.OwnInts.made (w : World) (base g f : Nat) (hb : base ≤ w.heap.size) (hg : g = w.heap.size) (hf : f ≤ maxLen) : OwnInts (w.alloc (.cells (madeCells #[.int .i64 0] f) 3)) base (.slice (some ⟨g, 0, none⟩) f f) f (fun _ => 0) :=
  hg ▸ ⟨by rw [intCells_len, Nat.mul_one], .inr ⟨w.heap.size, f, _, rfl, hb, heap_alloc_new w _, Nat.le_refl _, hf, by simp [madeCells], by
    apply List.ext_getElem?
    intro j
    rw [intCells_get, Nat.mul_one]
    by_cases hj : j < f
    · rw [if_pos hj]; simp [madeCells, hj, Nat.mod_one]
    · rw [if_neg hj]; simp [madeCells, hj]⟩⟩
end Go.Proofs.YtcdplfjegopmdaaGreat.K
/- Mi of chapter 02, in a namespace of its own. -/
namespace Go.Proofs.YtcdplfjegopmdaaGreat.K
open Go.RowKit Go.Shelf
attribute [local go_sem] Oper.semAt_some
section
variable {W Y : World} {row : Option Nat}
theorem _root_.Go.Proofs.YtcdplfjegopmdaaGreat.IntsAt.own {lo n : Nat} {A : Option Addr} {F : Nat → Int} (h : IntsAt W lo A n F) (hg : W.grownBy Y row) (hr : ∀ r, row = some r → ∃ o : Obj, W.heap[r]? = some o ∧ o.isCells = false) : IntsAt Y lo A n F := fun k hk => by
  obtain ⟨b, o, e, h1, h2, h3⟩ := h k hk
  exact ⟨b, o, e, h1, Nat.lt_of_lt_of_le h2 hg.size, cell_kept h3 hg hr⟩
theorem _root_.Go.Proofs.YtcdplfjegopmdaaGreat.Box.own {b : Nat} {t : TypeId} {cs : Array Value} (h : Box W b t cs) (hg : W.grownBy Y row) (hr : ∀ r, row = some r → ∃ o : Obj, W.heap[r]? = some o ∧ o.isCells = false) : Box Y b t cs :=
  (hg.block b h.lt (fun e => by
    obtain ⟨o, h1, h2⟩ := hr b e.symm
    have : W.heap[b]? = some (.cells cs t (0, 0)) := h
    rw [this] at h1
    injection h1 with h1
    subst h1
    cases h2)).trans h
end
end Go.Proofs.YtcdplfjegopmdaaGreat.K
/- Na of chapter 02, in a namespace of its own. -/
namespace Go.Proofs.YtcdplfjegopmdaaGreat.K
theorem gather_part {v n C : Nat} {S W : Nat → Int} (h : ∀ k, k < C → Tells (S k) (W (placeN v n k))) : ∀ k, k ≤ C → ∀ p, (gatherF v n S k p = 0 ∧ ∀ j, j < k → placeN v n j ≠ p) ∨ ((∃ j, j < k ∧ placeN v n j = p) ∧ Tells (gatherF v n S k p) (W p))
  | 0, _, p => .inl ⟨rfl, fun j hj => absurd hj (Nat.not_lt_zero j)⟩
  | k + 1, hk, p => by
    have ih := gather_part h k (by omega) p
    unfold gatherF
    by_cases e : p = placeN v n k
    · rw [if_pos e]
      have hs := h k (by omega)
      rw [← e] at hs
      refine .inr ⟨⟨k, by omega, e.symm⟩, ?_⟩
      rcases ih with ⟨h0, -⟩ | ⟨-, h0⟩
      · rw [h0, Int.zero_add]; exact hs
      · unfold Tells at *; omega
    · rw [if_neg e]
      rcases ih with ⟨h0, h1⟩ | ⟨⟨j, hj, hj2⟩, h0⟩
      · refine .inl ⟨h0, fun j hj => ?_⟩
        by_cases e2 : j = k
        · subst e2; exact fun h => e h.symm
        · exact h1 j (by omega)
      · exact .inr ⟨⟨j, by omega, hj2⟩, h0⟩
theorem place_onto {v n p : Nat} (hp : p < n) : ∃ j, j < n ∧ placeN v n j = p := by
  unfold placeN
  generalize v * n / 4 = a
  have hd := Nat.div_add_mod a n
  have hr := Nat.mod_lt a (show 0 < n by omega)
  obtain ⟨q, hq⟩ : ∃ q, q = n * (a / n) := ⟨_, rfl⟩
  rw [← hq] at hd
  by_cases h : a % n ≤ p
  · refine ⟨p - a % n, by omega, ?_⟩
    rw [show a + (p - a % n) = p + n * (a / n) by rw [← hq]; omega, Nat.add_mul_mod_self_left, Nat.mod_eq_of_lt hp]
  · refine ⟨p + n - a % n, by omega, ?_⟩
    rw [show a + (p + n - a % n) = p + n * (a / n + 1) by rw [Nat.mul_add, ← hq]; omega, Nat.add_mul_mod_self_left, Nat.mod_eq_of_lt hp]
theorem gather_tells {v n C : Nat} {S W : Nat → Int} (hC : n ≤ C) (h : ∀ k, k < C → Tells (S k) (W (placeN v n k))) {p : Nat} (hp : p < n) : Tells (gatherF v n S C p) (W p) := by
  rcases gather_part h C (Nat.le_refl _) p with ⟨-, h1⟩ | ⟨-, h1⟩
  · obtain ⟨j, hj, e⟩ := place_onto (v := v) hp
    exact absurd e (h1 j (by omega))
  · exact h1
theorem rec_right {q n : Nat} {F U S : Nat → Int} (hp : PolarOk q n F) (hU : ∀ k, k < n → IsBit (U k)) (hS : ∀ j, j < 2 ^ q → Tells (S j) (wordF (2 ^ q) (fun x => posF F U x n) j)) : ∀ k, k < n → recF q n F S k = U k := by
  intro k hk
  unfold recF
  have hr := hp.range k hk
  have e : (2 : Int) ^ q = ((2 ^ q : Nat) : Int) := by simp
  rw [e] at hr
  rw [cancel_right q (fun x => isPos F x n) (fun x => posF F U x n) S (fun j _ => posF_bit hU j) (fun j _ h => posF_none h) hS _ (by omega)]
  exact posF_at hp hk
theorem rec_checked {x y q m : Nat} {F B S : Nat → Int} (hp : PolarOk q (m + x) F) (hB : ∀ k, k < m → IsBit (B k)) (hS : ∀ j, j < 2 ^ q → Tells (S j) (wordF (2 ^ q) (fun i => posF F (catF m B (remB x y m B)) i (m + x)) j)) : recRight x y q (m + x) F S = true ∧ ∀ k, k < m → recF q (m + x) F S k = B k := by
  have hU := catF_bits (m := x) hB (remB_bit x y m B)
  have hr := rec_right hp hU hS
  have h1 : ∀ k, k < m → recF q (m + x) F S k = B k := fun k hk => by
    rw [hr k (by omega)]; unfold catF; rw [if_pos hk]
  refine ⟨?_, h1⟩
  unfold recRight
  rw [Nat.add_sub_cancel]
  refine intsB_iff.2 ⟨rfl, fun j hj => ?_⟩
  rw [hr (m + j) (by omega)]
  unfold catF
  rw [if_neg (by omega), Nat.add_sub_cancel_left]
  unfold remB
  rw [remF_congr h1]
theorem sizedErr_ok {n cnt : Nat} {F : Nat → Int} {m : Int} (h0 : 0 < n) (h1 : n ≤ cnt) (h : ∀ j, j < n → -m ≤ F j ∧ F j ≤ m) : sizedErrI n cnt F m = 0 := by
  unfold sizedErrI
  rw [if_neg (by omega), if_neg (by omega), if_pos (sizedB_iff.2 h)]
theorem recErr_ok {x y q m : Nat} {k : Int} {F B S : Nat → Int} (hc : chainErrI x y q (m + x) F k = 0) (q6 : q ≤ 6) (hp : PolarOk q (m + x) F) (hB : ∀ k, k < m → IsBit (B k)) (hS : ∀ j, j < 2 ^ q → Tells (S j) (wordF (2 ^ q) (fun i => posF F (catF m B (remB x y m B)) i (m + x)) j))
    (hS9 : ∀ j, j < 2 ^ q → -1000000000 ≤ S j ∧ S j ≤ 1000000000) : recErrI x y q (m + x) F k (2 ^ q) S = 0 := by
  have h1 : sizedErrI (2 ^ q) 200 S 1000000000 = 0 := sizedErr_ok (Nat.two_pow_pos q) (by have : 2 ^ q ≤ 2 ^ 6 := Nat.pow_le_pow_right (by decide) q6; omega) hS9
  have h2 : recPre x y q (m + x) F k (2 ^ q) S = 0 := by
    unfold recPre
    rw [hc, h1]
    rfl
  unfold recErrI
  rw [if_pos h2]
  simp only [Int.toNat_natCast]
  rw [if_pos trivial, if_pos (rec_checked hp hB hS).1]
end Go.Proofs.YtcdplfjegopmdaaGreat.K
/- Lc of chapter 02, in a namespace of its own. -/
namespace Go.Proofs.YtcdplfjegopmdaaGreat.K
open Go.RowKit
set_option maxHeartbeats 2000000 in
theorem chainErrR_any (d t p k : Int) (A : Option Addr) (n c : Nat) (F : Nat → Int) (w : World) (hn : n ≤ 1000) (hI : IntsAt w 0 A n F) :
    Calls Tryz.prog 43 #[.agg #[.int .i64 d, .int .i64 t, .int .i64 p, .slice A n c, .int .i64 k]] w fun e w' => e = .returned (.int .i64 (chainErrI d t p n F k)) ∧ Below w.heap.size w w' := by
  have HI := hide hI
  clear hI
  obtain ⟨R, hR⟩ : ∃ R, R = chainErrI d t p n F k := ⟨_, rfl⟩
  have EQ : R = if polyErrI d t = 0 then (if polarErrI p n F = 0 then (if d < (n : Int) then unI (withinB k 1 400) 2 else 10) else polarErrI p n F) else polyErrI d t := by
    rw [hR]
    unfold chainErrI
    rw [firstE_cons, firstE_cons, firstE_cons, firstE_cons, firstE_none]
    by_cases h1 : polyErrI d t = 0
    · rw [if_pos h1, if_pos h1]
      by_cases h2 : polarErrI p n F = 0
      · rw [if_pos h2, if_pos h2]
        by_cases h3 : d < (n : Int)
        · rw [decide_eq_true h3, if_pos h3]
          cases withinB k 1 400 <;> rfl
        · rw [decide_eq_false h3, if_neg h3]; rfl
      · rw [if_neg h2, if_neg h2]
    · rw [if_neg h1, if_neg h1]
  rw [← hR]
  clear hR
  by_cases h1 : polyErrI d t = 0
  · rw [if_pos h1] at EQ
    by_cases h2 : polarErrI p n F = 0
    · rw [if_pos h2] at EQ
      obtain ⟨g1, g2, -⟩ := poly_of h1
      by_cases h3 : d < (n : Int)
      · rw [if_pos h3] at EQ
        have t1 : decide ((n : Int) ≤ d) = false := by simp; omega
        have HQ := hide EQ
        clear EQ h3
        go_enter Tryz.func43, Tryz.ntmps43
        go_wp2_with fail
        refine (checkPolyR_any d t _).mono ?_
        rintro e w1 ⟨rfl, hb1⟩
        rw [h1]
        have bx1 : Box w1 w.heap.size 28 #[.int .i64 d, .int .i64 t, .int .i64 p, .slice A n c, .int .i64 k] := (Box.made rfl).below hb1
        have hB1 := below_of_alloc hb1
        have x2 := bx1.at_ 2
        have x3 := bx1.at_ 3
        simp only [List.getElem?_toArray] at x2 x3
        have hl1 := bx1.lt
        go_wp2_with fail
        refine (checkPolarR_any p A n c F _ (by omega) (HI.out.below hB1)).mono ?_
        rintro e w2 ⟨rfl, hb2⟩
        rw [h2]
        have bx2 := bx1.below hb2
        have hB2 := hB1.trans (hb2.mono hB1.size)
        have y0 := bx2.at_ 0
        have y3 := bx2.at_ 3
        have y4 := bx2.at_ 4
        simp only [List.getElem?_toArray] at y0 y3 y4
        have hl2 := bx2.lt
        clear x2 x3 hl1 bx1
        go_wp2_with fail
        refine (countErrR_any k _).mono ?_
        rintro e w3 ⟨rfl, rfl⟩
        go_wp2_with fail
        go_ret
        exact ⟨ret_int HQ.out.symm, hB2⟩
      · rw [if_neg h3] at EQ
        have t1 : decide ((n : Int) ≤ d) = true := by simp; omega
        have HQ := hide EQ
        clear EQ h3
        go_enter Tryz.func43, Tryz.ntmps43
        go_wp2_with fail
        refine (checkPolyR_any d t _).mono ?_
        rintro e w1 ⟨rfl, hb1⟩
        rw [h1]
        have bx1 : Box w1 w.heap.size 28 #[.int .i64 d, .int .i64 t, .int .i64 p, .slice A n c, .int .i64 k] := (Box.made rfl).below hb1
        have hB1 := below_of_alloc hb1
        have x2 := bx1.at_ 2
        have x3 := bx1.at_ 3
        simp only [List.getElem?_toArray] at x2 x3
        have hl1 := bx1.lt
        go_wp2_with fail
        refine (checkPolarR_any p A n c F _ (by omega) (HI.out.below hB1)).mono ?_
        rintro e w2 ⟨rfl, hb2⟩
        rw [h2]
        have bx2 := bx1.below hb2
        have hB2 := hB1.trans (hb2.mono hB1.size)
        have y0 := bx2.at_ 0
        have y3 := bx2.at_ 3
        have y4 := bx2.at_ 4
        simp only [List.getElem?_toArray] at y0 y3 y4
        have hl2 := bx2.lt
        clear x2 x3 hl1 bx1
        go_wp2_with fail
        go_ret
        exact ⟨ret_int HQ.out.symm, hB2⟩
    · rw [if_neg h2] at EQ
      have t1 : (polarErrI p n F != 0) = true := by simpa using h2
      have HQ := hide EQ
      clear EQ h2
      go_enter Tryz.func43, Tryz.ntmps43
      go_wp2_with fail
      refine (checkPolyR_any d t _).mono ?_
      rintro e w1 ⟨rfl, hb1⟩
      rw [h1]
      have bx1 : Box w1 w.heap.size 28 #[.int .i64 d, .int .i64 t, .int .i64 p, .slice A n c, .int .i64 k] := (Box.made rfl).below hb1
      have hB1 := below_of_alloc hb1
      have x2 := bx1.at_ 2
      have x3 := bx1.at_ 3
      simp only [List.getElem?_toArray] at x2 x3
      have hl1 := bx1.lt
      go_wp2_with fail
      refine (checkPolarR_any p A n c F _ (by omega) (HI.out.below hB1)).mono ?_
      rintro e w2 ⟨rfl, hb2⟩
      have hB2 := hB1.trans (hb2.mono hB1.size)
      generalize polarErrI p n F = r at *
      go_wp2_with fail
      go_ret
      exact ⟨ret_int HQ.out.symm, hB2⟩
  · rw [if_neg h1] at EQ
    have t1 : (polyErrI d t != 0) = true := by simpa using h1
    have HQ := hide EQ
    clear EQ h1
    go_enter Tryz.func43, Tryz.ntmps43
    go_wp2_with fail
    refine (checkPolyR_any d t _).mono ?_
    rintro e w1 ⟨rfl, hb1⟩
    have hB1 := below_of_alloc hb1
    generalize polyErrI d t = r at *
    go_wp2_with fail
    go_ret
    exact ⟨ret_int HQ.out.symm, hB1⟩
end Go.Proofs.YtcdplfjegopmdaaGreat.K
/- Lh of chapter 02, in a namespace of its own. -/
namespace Go.Proofs.YtcdplfjegopmdaaGreat.K
open Go.RowKit Go.Shelf
theorem chain_cells {W : World} {b : Nat} {d t p k : Int} {A : Option Addr} {n c : Nat} (bx : Box W b 28 #[.int .i64 d, .int .i64 t, .int .i64 p, .slice A n c, .int .i64 k]) :
    W.cell? ⟨b, 0, none⟩ = some (.int .i64 d) ∧ W.cell? ⟨b, 1, none⟩ = some (.int .i64 t) ∧ W.cell? ⟨b, 2, none⟩ = some (.int .i64 p) ∧ W.cell? ⟨b, 3, none⟩ = some (.slice A n c) ∧ W.cell? ⟨b, 4, none⟩ = some (.int .i64 k) ∧ b < W.heap.size :=
  ⟨bx.at_ 0, bx.at_ 1, bx.at_ 2, bx.at_ 3, bx.at_ 4, bx.lt⟩
set_option maxHeartbeats 2000000 in
theorem copyChain_any (d t p k : Int) (A : Option Addr) (n c : Nat) (F : Nat → Int) (w : World) (hn : n ≤ 100000) (hI : IntsAt w 0 A n F) :
    Calls Tryz.prog 13 #[.agg #[.int .i64 d, .int .i64 t, .int .i64 p, .slice A n c, .int .i64 k]] w fun e w' => ∃ A' c', e = .returned (.agg #[.int .i64 d, .int .i64 t, .int .i64 p, .slice A' n c', .int .i64 k]) ∧ n ≤ c' ∧ IntsAt w' w.heap.size A' n F ∧ Below w.heap.size w w' := by
  have HI := hide hI
  clear hI
  go_enter Tryz.func13, Tryz.ntmps13
  go_wp2_with fail
  generalize hW : World.alloc (World.alloc w _) _ = W
  have bx : Box W w.heap.size 28 #[.int .i64 d, .int .i64 t, .int .i64 p, .slice A n c, .int .i64 k] := by rw [← hW]; exact (Box.made rfl).alloc _
  have by' : Box W (w.heap.size + 1) 28 #[.int .i64 0, .int .i64 0, .int .i64 0, .slice none 0 0, .int .i64 0] := by rw [← hW]; exact Box.made (by simp)
  have hB : Below w.heap.size w W := by rw [← hW]; exact ((Below.refl _ _).alloc (Nat.le_refl _) _).alloc (by simp) _
  clear hW
  obtain ⟨x0, x1, x2, x3, x4, -⟩ := chain_cells bx
  have hz : w.heap.size + 1 + 1 ≤ W.heap.size := by'.lt
  have BY := hide by'
  have HBB := hide hB
  have SOF := hide (fun W' (h : Below (w.heap.size + 1) W W') => (⟨(h.cell (p := ⟨w.heap.size, 0, none⟩) (by simp)).trans x0, (h.cell (p := ⟨w.heap.size, 1, none⟩) (by simp)).trans x1, (h.cell (p := ⟨w.heap.size, 2, none⟩) (by simp)).trans x2, (h.cell (p := ⟨w.heap.size, 3, none⟩) (by simp)).trans x3, (h.cell (p := ⟨w.heap.size, 4, none⟩) (by simp)).trans x4, h⟩ :
     W'.cell? ⟨w.heap.size, 0, none⟩ = some (.int .i64 d) ∧ W'.cell? ⟨w.heap.size, 1, none⟩ = some (.int .i64 t) ∧ W'.cell? ⟨w.heap.size, 2, none⟩ = some (.int .i64 p) ∧ W'.cell? ⟨w.heap.size, 3, none⟩ = some (.slice A n c) ∧ W'.cell? ⟨w.heap.size, 4, none⟩ = some (.int .i64 k) ∧ Below (w.heap.size + 1) W W'))
  have KI := hide (fun W' (h : W'.cell? ⟨w.heap.size, 0, none⟩ = some (.int .i64 d) ∧ W'.cell? ⟨w.heap.size, 1, none⟩ = some (.int .i64 t) ∧ W'.cell? ⟨w.heap.size, 2, none⟩ = some (.int .i64 p) ∧ W'.cell? ⟨w.heap.size, 3, none⟩ = some (.slice A n c) ∧ W'.cell? ⟨w.heap.size, 4, none⟩ = some (.int .i64 k) ∧ Below (w.heap.size + 1) W W') => HI.out.below (hB.trans (h.2.2.2.2.2.mono (by omega))))
  have b0 : Below (w.heap.size + 1) W W := Below.refl _ _
  clear x0 x1 x2 x3 x4 hB by' bx
  go_region_held3 (fun w' => w'.cell? ⟨w.heap.size, 0, none⟩ = some (.int .i64 d) ∧ w'.cell? ⟨w.heap.size, 1, none⟩ = some (.int .i64 t) ∧ w'.cell? ⟨w.heap.size, 2, none⟩ = some (.int .i64 p) ∧ w'.cell? ⟨w.heap.size, 3, none⟩ = some (.slice A n c) ∧ w'.cell? ⟨w.heap.size, 4, none⟩ = some (.int .i64 k) ∧ Below (w.heap.size + 1) W w')
      (first | assumption | exact SOF.out _ (by assumption) | exact SOF.out _ b0.drew | exact SOF.out _ (((((hs2.setCell (by simp) _).setCell (by simp) _).setCell (by simp) _).setCell (by simp) _).setCell (by simp) _))
      (first
        | (go_at_call 54; refine (copyPolar_any p A n c F _ (by omega) (KI.out _ (by assumption))).mono ?_; rintro e w2 ⟨A2, c2, rfl, hc2, hI2, hb2⟩; have hs2 : Below (w.heap.size + 1) W w2 := bstep5 hb2 (by assumption) (by omega); have hy2 := BY.out.below (below_of_drew hb2); have y0 := hy2.at_ 0; have y1 := hy2.at_ 1; have y2 := hy2.at_ 2; have y3 := hy2.at_ 3; have y4 := hy2.at_ 4; have yf0 := hy2.free 0; have yf1 := hy2.free 1; have yf2 := hy2.free 2; have yf3 := hy2.free 3; have yf4 := hy2.free 4; have yl := hy2.lt))
  go_wp2_with fail
  refine bodyPost_ret (v := .agg #[.int .i64 d, .int .i64 t, .int .i64 p, .slice A2 n c2, .int .i64 k]) ?_ rfl ⟨A2, c2, rfl, hc2, ?_, ?_⟩
  · have hz := ((((hy2.set_ 0 (.int .i64 d)).set_ 1 (.int .i64 t)).set_ 2 (.int .i64 p)).set_ 3 (.slice A2 n c2)).set_ 4 (.int .i64 k)
    have z0 := hz.at_ 0
    have z1 := hz.at_ 1
    have z2 := hz.at_ 2
    have z3 := hz.at_ 3
    have z4 := hz.at_ 4
    simp at z0 z1 z2 z3 z4
    simp [results, Tryz.results13, go_sem, z0, z1, z2, z3, z4]
  · have h := hI2.weak (show w.heap.size + 1 + 1 ≤ _ from hz)
    exact (((((h.other (p := ⟨w.heap.size + 1, 0, none⟩) (by simp) _).other (p := ⟨w.heap.size + 1, 1, none⟩) (by simp) _).other (p := ⟨w.heap.size + 1, 2, none⟩) (by simp) _).other (p := ⟨w.heap.size + 1, 3, none⟩) (by simp) _).other (p := ⟨w.heap.size + 1, 4, none⟩) (by simp) _).weak (by omega)
  · have hB2 : Below w.heap.size w w2 := HBB.out.trans (hs2.mono (by omega))
    exact ((((hB2.setCell (by simp) _).setCell (by simp) _).setCell (by simp) _).setCell (by simp) _).setCell (by simp) _
end Go.Proofs.YtcdplfjegopmdaaGreat.K
/- Nc of chapter 02, in a namespace of its own. -/
namespace Go.Proofs.YtcdplfjegopmdaaGreat.K
open Go.RowKit Go.Shelf
def codeRightB (d t p : Int) (n : Nat) (F : Nat → Int) (k : Int) (m : Nat) (B : Nat → Int) : Bool := decide (n ≤ 66) && (chainErrI d t p n F k == 0) && decide (k ≤ 80) && (bitsErrR m B == 0) && ((m : Int) + d == (n : Int))
theorem codeRight_iff {d t p : Int} {n : Nat} {F : Nat → Int} {k : Int} {m : Nat} {B : Nat → Int} : codeRightB d t p n F k m B = true ↔ n ≤ 66 ∧ chainErrI d t p n F k = 0 ∧ k ≤ 80 ∧ bitsErrR m B = 0 ∧ (m : Int) + d = (n : Int) := by
  simp [codeRightB, and_assoc]
set_option maxHeartbeats 4000000 in
theorem codeRight_any (d t p k : Int) (A C : Option Addr) (n c m e : Nat) (F B : Nat → Int) (w : World) (hn : n ≤ 9223372036854775807) (hm : m ≤ 9223372036854775807) (hI : IntsAt w 0 A n F) (hJ : IntsAt w 0 C m B) :
    Calls Tryz.prog 6 #[.agg #[.int .i64 d, .int .i64 t, .int .i64 p, .slice A n c, .int .i64 k], .slice C m e] w fun r w' => r = .returned (.bool (codeRightB d t p n F k m B)) ∧ Below w.heap.size w w' := by
  have HI := hide hI
  have HJ := hide hJ
  have HR : ∀ b, (codeRightB d t p n F k m B = true ↔ b = true) → Hid (b = codeRightB d t p n F k m B) := fun b h => hide (Bool.eq_iff_iff.2 h.symm)
  clear hI hJ
  by_cases h1 : n ≤ 66
  · have t1 : decide ((n : Int) ≤ 66) = true := decide_eq_true (by omega)
    have t1' : decide (n ≤ 66) = true := decide_eq_true h1
    by_cases h2 : chainErrI d t p n F k = 0
    · have t2 : (chainErrI d t p n F k == 0) = true := by simpa using h2
      obtain ⟨x, y, q, j, ok⟩ := chainErr_zero h2
      have hd0 := ok.ed
      have hd1 := ok.d1
      by_cases h3 : k ≤ 80
      · have t3 : decide (k ≤ 80) = true := decide_eq_true h3
        by_cases h4 : bitsErrR m B = 0
        · have t4 : (bitsErrR m B == 0) = true := by simpa using h4
          obtain ⟨m0, m9, -⟩ := bitsErrR_zero h4
          have q5 : IntKind.i64.wrap ((m : Int) + d) = (m : Int) + d := IntWalk.i64_in _ (by omega)
          have HZ := HR ((m : Int) + d == (n : Int)) (by rw [codeRight_iff]; simp [h1, h2, h3, h4])
          clear ok hd0 hd1 HR h4
          go_enter Tryz.func6, Tryz.ntmps6
          go_wp2_with fail
          refine (chainErrR_any d t p k A n c F _ (by omega) (HI.out.alloc _)).mono ?_
          rintro r w1 ⟨rfl, hb1⟩
          have bx1 : Box w1 w.heap.size 28 #[.int .i64 d, .int .i64 t, .int .i64 p, .slice A n c, .int .i64 k] := (Box.made rfl).below hb1
          have hB1 := below_of_alloc hb1
          clear hb1
          obtain ⟨x0, x1, x2, x3, x4, hl⟩ := chain_cells bx1
          rw [h2]
          go_wp2_with fail
          refine (bitsErrR_any C m e B _ hm (HJ.out.below hB1)).mono ?_
          rintro r w2 ⟨rfl, q, rfl⟩
          go_wp2_with fail
          go_ret
          exact ⟨ret_bool HZ.out, Go.below_drewN hB1 _⟩
        · have t4 : (bitsErrR m B == 0) = false := by simpa using h4
          have HZ := HR false (by rw [codeRight_iff]; simp [h4])
          clear ok hd0 hd1 HR h4
          go_enter Tryz.func6, Tryz.ntmps6
          go_wp2_with fail
          refine (chainErrR_any d t p k A n c F _ (by omega) (HI.out.alloc _)).mono ?_
          rintro r w1 ⟨rfl, hb1⟩
          have bx1 : Box w1 w.heap.size 28 #[.int .i64 d, .int .i64 t, .int .i64 p, .slice A n c, .int .i64 k] := (Box.made rfl).below hb1
          have hB1 := below_of_alloc hb1
          clear hb1
          obtain ⟨x0, x1, x2, x3, x4, hl⟩ := chain_cells bx1
          rw [h2]
          go_wp2_with fail
          refine (bitsErrR_any C m e B _ hm (HJ.out.below hB1)).mono ?_
          rintro r w2 ⟨rfl, q, rfl⟩
          generalize bitsErrR m B = R at *
          go_wp2_with fail
          go_ret
          exact ⟨ret_bool HZ.out, Go.below_drewN hB1 _⟩
      · have t3 : decide (k ≤ 80) = false := decide_eq_false h3
        have HZ := HR false (by rw [codeRight_iff]; simp [h3])
        clear ok hd0 hd1 HR h3
        go_enter Tryz.func6, Tryz.ntmps6
        go_wp2_with fail
        refine (chainErrR_any d t p k A n c F _ (by omega) (HI.out.alloc _)).mono ?_
        rintro r w1 ⟨rfl, hb1⟩
        have bx1 : Box w1 w.heap.size 28 #[.int .i64 d, .int .i64 t, .int .i64 p, .slice A n c, .int .i64 k] := (Box.made rfl).below hb1
        have hB1 := below_of_alloc hb1
        clear hb1
        obtain ⟨x0, x1, x2, x3, x4, hl⟩ := chain_cells bx1
        rw [h2]
        go_wp2_with fail
        go_ret
        exact ⟨ret_bool HZ.out, hB1⟩
    · have t2 : (chainErrI d t p n F k == 0) = false := by simpa using h2
      have HZ := HR false (by rw [codeRight_iff]; simp [h2])
      clear HR h2
      go_enter Tryz.func6, Tryz.ntmps6
      go_wp2_with fail
      refine (chainErrR_any d t p k A n c F _ (by omega) (HI.out.alloc _)).mono ?_
      rintro r w1 ⟨rfl, hb1⟩
      have bx1 : Box w1 w.heap.size 28 #[.int .i64 d, .int .i64 t, .int .i64 p, .slice A n c, .int .i64 k] := (Box.made rfl).below hb1
      have hB1 := below_of_alloc hb1
      clear hb1
      obtain ⟨x0, x1, x2, x3, x4, hl⟩ := chain_cells bx1
      generalize chainErrI d t p n F k = R at *
      go_wp2_with fail
      go_ret
      exact ⟨ret_bool HZ.out, hB1⟩
  · have t1 : decide ((n : Int) ≤ 66) = false := decide_eq_false (by omega)
    have t1' : decide (n ≤ 66) = false := decide_eq_false h1
    have HZ := HR false (by rw [codeRight_iff]; simp [h1])
    clear HR h1
    go_enter Tryz.func6, Tryz.ntmps6
    go_wp2_with fail
    go_ret
    exact ⟨ret_bool HZ.out, by (repeat (first | (with_reducible exact Below.refl _ _) | (with_reducible refine Go.below_drewN ?_ _) | (with_reducible refine Below.drew ?_) | (with_reducible refine Below.alloc ?_ (by first | exact Nat.le_refl _ | (simp; done) | (simp; omega) | omega) _) | (with_reducible refine Below.setCell ?_ (by first | exact Nat.le_refl _ | (simp; done) | (simp; omega) | omega) _)))⟩
end Go.Proofs.YtcdplfjegopmdaaGreat.K
/- Nf of chapter 02, in a namespace of its own. -/
namespace Go.Proofs.YtcdplfjegopmdaaGreat.K
open Go.RowKit Go.Shelf
theorem bitsErrR_of {n : Nat} {F : Nat → Int} (h0 : 0 < n) (h1 : n ≤ 200) (hb : ∀ k, k < n → IsBit (F k)) : bitsErrR n F = 0 := by rw [← bitsErrC_eq]; exact bitsErr_ok' h0 h1 hb
/-- All that a block and its chain keep, in natural numbers. -/
structure SendOk (x y q k n m : Nat) (F B : Nat → Int) : Prop where
  ce : chainErrI x y q n F k = 0
  sum : m + x = n
  n9 : n ≤ 66
  k80 : k ≤ 80
  k1 : 1 ≤ k
  q6 : q ≤ 6
  m0 : 0 < m
  polar : PolarOk q n F
  bits : ∀ i, i < m → IsBit (B i)
theorem sendOk_of {d t p k : Int} {n m : Nat} {F B : Nat → Int} (h : codeRightB d t p n F k m B = true) : ∃ x y q j : Nat, d = x ∧ t = y ∧ p = q ∧ k = j ∧ SendOk x y q j n m F B := by
  obtain ⟨h1, h2, h3, h4, h5⟩ := codeRight_iff.1 h
  obtain ⟨x, y, q, j, ok⟩ := chainErr_zero h2
  obtain ⟨rfl, rfl, rfl, rfl, d0, d1, t1, -, hpol, q6, hless, k1, k4⟩ := ok
  obtain ⟨m0, m9, hb⟩ := bitsErrR_zero h4
  exact ⟨x, y, q, j, rfl, rfl, rfl, rfl, h2, by omega, h1, by omega, k1, q6, m0, hpol, hb⟩
theorem SendOk.len {x y q k n m : Nat} {F B : Nat → Int} (h : SendOk x y q k n m F B) : 1 ≤ 2 ^ q ∧ 2 ^ q ≤ 64 := ⟨Nat.two_pow_pos q, by have : 2 ^ q ≤ 2 ^ 6 := Nat.pow_le_pow_right (by decide) h.q6; omega⟩
/-- The word that is sent. -/
def codeF (x y q n m : Nat) (F B : Nat → Int) (j : Nat) : Int := wordF (2 ^ q) (fun i => posF F (catF m B (remB x y m B)) i n) j
theorem codeF_bit (x y q n m : Nat) (F B : Nat → Int) (j : Nat) : IsBit (codeF x y q n m F B j) := wordF_bit _ _ _
theorem sentF_code (x y q n m v j : Nat) (F B : Nat → Int) : sentF x y q n F m B v j = codeF x y q n m F B (placeN v (2 ^ q) j) := rfl
theorem Sent_ok (x y q k n m v : Nat) (A C : Option Addr) (c e : Nat) (F B : Nat → Int) (w : World) (ok : SendOk x y q k n m F B) (hv : v ≤ 3) (hI : IntsAt w 0 A n F) (hJ : IntsAt w 0 C m B) :
    Calls Tryz.prog 12 #[.agg #[.int .i64 (x : Int), .int .i64 (y : Int), .int .i64 (q : Int), .slice A n c, .int .i64 (k : Int)], .slice C m e, .int .i64 (v : Int)] w fun r w' => ∃ A' c', r = .returned (.tuple #[.slice A' k c', .int .i64 0]) ∧ IntsAt w' w.heap.size A' k (sentF x y q n F m B v) ∧ Below w.heap.size w w' := by
  have hs := ok.sum
  have h9 := ok.n9
  have hz : sentErrI x y q n F k m B v = 0 := by
    unfold sentErrI
    rw [ok.ce, bitsErrR_of ok.m0 (by omega) ok.bits, decide_eq_true (by omega), withinB_yes (by omega)]
    rfl
  refine (Sent_any x y q k v A C n c m e F B w (by omega) (by omega) (by omega) hI hJ).mono ?_
  rintro r w' (⟨h0, -⟩ | ⟨-, v', rfl, A', c', rfl, -, hI', hb⟩)
  · exact absurd hz h0
  · simp only [Int.toNat_natCast] at hI' ⊢
    exact ⟨A', c', rfl, hI', hb⟩
theorem Gathered_ok (A : Option Addr) (n c v l : Nat) (S : Nat → Int) (w : World) (n0 : 1 ≤ n) (n9 : n ≤ 400) (hv : v ≤ 3) (l0 : 1 ≤ l) (l9 : l ≤ 200) (hS : ∀ j, j < n → -1000000 ≤ S j ∧ S j ≤ 1000000) (hI : IntsAt w 0 A n S) :
    Calls Tryz.prog 36 #[.slice A n c, .int .i64 (v : Int), .int .i64 (l : Int)] w fun r w' => ∃ g, r = .returned (.tuple #[.slice (some ⟨g, 0, none⟩) l l, .int .i64 0]) ∧ IntsAt w' w.heap.size (some ⟨g, 0, none⟩) l (gatherF v l S n) ∧ Below w.heap.size w w' := by
  have hz : gathErr n S v l = 0 := by
    unfold gathErr
    rw [if_pos (sizedErr_ok (by omega) (by omega) hS), withinB_yes (by omega), withinB_yes (by omega)]
    rfl
  refine (Gathered_row A n c v l S w hI (by omega)).mono ?_
  rintro r w' (⟨h0, -⟩ | ⟨-, v', rfl, ⟨g, rfl⟩, A', c', e', -, hI', hb⟩)
  · exact absurd hz h0
  · simp only [Int.toNat_natCast] at e' hI' ⊢
    injection e' with e1 e2 e3
    subst e1
    exact ⟨g, rfl, hI', hb⟩
theorem Recovered_ok (x y q k n m : Nat) (A C : Option Addr) (c e : Nat) (F B S : Nat → Int) (w : World) (ok : SendOk x y q k n m F B) (he0 : 2 ^ q ≤ e) (he : e ≤ 9223372036854775807)
    (hS : ∀ j, j < 2 ^ q → Tells (S j) (codeF x y q n m F B j)) (hS9 : ∀ j, j < 2 ^ q → -1000000000 ≤ S j ∧ S j ≤ 1000000000) (hI : IntsAt w 0 A n F) (hJ : IntsAt w 0 C (2 ^ q) S) :
    Calls Tryz.prog 38 #[.agg #[.int .i64 (x : Int), .int .i64 (y : Int), .int .i64 (q : Int), .slice A n c, .int .i64 (k : Int)], .slice C (2 ^ q) e] w fun r w' => ∃ A' c', r = .returned (.tuple #[.slice A' m c', .int .i64 0]) ∧ m ≤ c' ∧ c' ≤ 9223372036854775807 ∧ IntsAt w' w.heap.size A' m B ∧ Below w.heap.size w w' := by
  have hl := ok.len
  have h9 := ok.n9
  obtain ⟨ce, rfl, -, -, -, q6, -, hp, hb⟩ := ok
  have hz : recErrI x y q (m + x) F k (2 ^ q) S = 0 := recErr_ok ce q6 hp hb hS hS9
  have hB := (rec_checked hp hb hS).2
  refine (Recovered_cap x y q k A C (m + x) c (2 ^ q) e F S w (by omega) (by omega) he0 he hI hJ).mono ?_
  rintro r w' (⟨h0, -⟩ | ⟨-, v', rfl, ⟨A1, c1, rfl, hc1⟩, A', c', e', hc', hI', hb⟩)
  · exact absurd hz h0
  · simp only [Int.toNat_natCast, Nat.add_sub_cancel] at e' hc' hI' ⊢
    injection e' with e1 e2 e3
    subst e1
    subst e3
    exact ⟨A1, c1, rfl, hc', hc1, hI'.congr hB, hb⟩
end Go.Proofs.YtcdplfjegopmdaaGreat.K
/- A step of a held region: what a call made, behind N facts and Below. -/
namespace Go.Proofs.YtcdplfjegopmdaaGreat
open Go.RowKit
theorem bst0 {B : Nat} {w1 W w2 : World} (hb : Below W.heap.size W w2) (h : Below B w1 W) (hB : B ≤ w1.heap.size) : Below B w1 w2 := h.trans (hb.mono (Nat.le_trans hB h.size))
theorem bst1 {B : Nat} {w1 W w2 : World} {p0 : Prop} (hb : Below W.heap.size W w2) (h : p0 ∧ Below B w1 W) (hB : B ≤ w1.heap.size) : Below B w1 w2 := h.2.trans (hb.mono (Nat.le_trans hB h.2.size))
theorem bst2 {B : Nat} {w1 W w2 : World} {p0 p1 : Prop} (hb : Below W.heap.size W w2) (h : p0 ∧ p1 ∧ Below B w1 W) (hB : B ≤ w1.heap.size) : Below B w1 w2 := h.2.2.trans (hb.mono (Nat.le_trans hB h.2.2.size))
theorem bst3 {B : Nat} {w1 W w2 : World} {p0 p1 p2 : Prop} (hb : Below W.heap.size W w2) (h : p0 ∧ p1 ∧ p2 ∧ Below B w1 W) (hB : B ≤ w1.heap.size) : Below B w1 w2 := h.2.2.2.trans (hb.mono (Nat.le_trans hB h.2.2.2.size))
theorem bst4 {B : Nat} {w1 W w2 : World} {p0 p1 p2 p3 : Prop} (hb : Below W.heap.size W w2) (h : p0 ∧ p1 ∧ p2 ∧ p3 ∧ Below B w1 W) (hB : B ≤ w1.heap.size) : Below B w1 w2 := h.2.2.2.2.trans (hb.mono (Nat.le_trans hB h.2.2.2.2.size))
theorem bst5 {B : Nat} {w1 W w2 : World} {p0 p1 p2 p3 p4 : Prop} (hb : Below W.heap.size W w2) (h : p0 ∧ p1 ∧ p2 ∧ p3 ∧ p4 ∧ Below B w1 W) (hB : B ≤ w1.heap.size) : Below B w1 w2 := h.2.2.2.2.2.trans (hb.mono (Nat.le_trans hB h.2.2.2.2.2.size))
theorem bst6 {B : Nat} {w1 W w2 : World} {p0 p1 p2 p3 p4 p5 : Prop} (hb : Below W.heap.size W w2) (h : p0 ∧ p1 ∧ p2 ∧ p3 ∧ p4 ∧ p5 ∧ Below B w1 W) (hB : B ≤ w1.heap.size) : Below B w1 w2 := h.2.2.2.2.2.2.trans (hb.mono (Nat.le_trans hB h.2.2.2.2.2.2.size))
theorem bst7 {B : Nat} {w1 W w2 : World} {p0 p1 p2 p3 p4 p5 p6 : Prop} (hb : Below W.heap.size W w2) (h : p0 ∧ p1 ∧ p2 ∧ p3 ∧ p4 ∧ p5 ∧ p6 ∧ Below B w1 W) (hB : B ≤ w1.heap.size) : Below B w1 w2 := h.2.2.2.2.2.2.2.trans (hb.mono (Nat.le_trans hB h.2.2.2.2.2.2.2.size))
theorem bst8 {B : Nat} {w1 W w2 : World} {p0 p1 p2 p3 p4 p5 p6 p7 : Prop} (hb : Below W.heap.size W w2) (h : p0 ∧ p1 ∧ p2 ∧ p3 ∧ p4 ∧ p5 ∧ p6 ∧ p7 ∧ Below B w1 W) (hB : B ≤ w1.heap.size) : Below B w1 w2 := h.2.2.2.2.2.2.2.2.trans (hb.mono (Nat.le_trans hB h.2.2.2.2.2.2.2.2.size))
theorem bst9 {B : Nat} {w1 W w2 : World} {p0 p1 p2 p3 p4 p5 p6 p7 p8 : Prop} (hb : Below W.heap.size W w2) (h : p0 ∧ p1 ∧ p2 ∧ p3 ∧ p4 ∧ p5 ∧ p6 ∧ p7 ∧ p8 ∧ Below B w1 W) (hB : B ≤ w1.heap.size) : Below B w1 w2 := h.2.2.2.2.2.2.2.2.2.trans (hb.mono (Nat.le_trans hB h.2.2.2.2.2.2.2.2.2.size))
theorem bst10 {B : Nat} {w1 W w2 : World} {p0 p1 p2 p3 p4 p5 p6 p7 p8 p9 : Prop} (hb : Below W.heap.size W w2) (h : p0 ∧ p1 ∧ p2 ∧ p3 ∧ p4 ∧ p5 ∧ p6 ∧ p7 ∧ p8 ∧ p9 ∧ Below B w1 W) (hB : B ≤ w1.heap.size) : Below B w1 w2 := h.2.2.2.2.2.2.2.2.2.2.trans (hb.mono (Nat.le_trans hB h.2.2.2.2.2.2.2.2.2.2.size))
theorem bst11 {B : Nat} {w1 W w2 : World} {p0 p1 p2 p3 p4 p5 p6 p7 p8 p9 p10 : Prop} (hb : Below W.heap.size W w2) (h : p0 ∧ p1 ∧ p2 ∧ p3 ∧ p4 ∧ p5 ∧ p6 ∧ p7 ∧ p8 ∧ p9 ∧ p10 ∧ Below B w1 W) (hB : B ≤ w1.heap.size) : Below B w1 w2 := h.2.2.2.2.2.2.2.2.2.2.2.trans (hb.mono (Nat.le_trans hB h.2.2.2.2.2.2.2.2.2.2.2.size))
theorem bst12 {B : Nat} {w1 W w2 : World} {p0 p1 p2 p3 p4 p5 p6 p7 p8 p9 p10 p11 : Prop} (hb : Below W.heap.size W w2) (h : p0 ∧ p1 ∧ p2 ∧ p3 ∧ p4 ∧ p5 ∧ p6 ∧ p7 ∧ p8 ∧ p9 ∧ p10 ∧ p11 ∧ Below B w1 W) (hB : B ≤ w1.heap.size) : Below B w1 w2 := h.2.2.2.2.2.2.2.2.2.2.2.2.trans (hb.mono (Nat.le_trans hB h.2.2.2.2.2.2.2.2.2.2.2.2.size))
theorem bst13 {B : Nat} {w1 W w2 : World} {p0 p1 p2 p3 p4 p5 p6 p7 p8 p9 p10 p11 p12 : Prop} (hb : Below W.heap.size W w2) (h : p0 ∧ p1 ∧ p2 ∧ p3 ∧ p4 ∧ p5 ∧ p6 ∧ p7 ∧ p8 ∧ p9 ∧ p10 ∧ p11 ∧ p12 ∧ Below B w1 W) (hB : B ≤ w1.heap.size) : Below B w1 w2 := h.2.2.2.2.2.2.2.2.2.2.2.2.2.trans (hb.mono (Nat.le_trans hB h.2.2.2.2.2.2.2.2.2.2.2.2.2.size))
theorem bst14 {B : Nat} {w1 W w2 : World} {p0 p1 p2 p3 p4 p5 p6 p7 p8 p9 p10 p11 p12 p13 : Prop} (hb : Below W.heap.size W w2) (h : p0 ∧ p1 ∧ p2 ∧ p3 ∧ p4 ∧ p5 ∧ p6 ∧ p7 ∧ p8 ∧ p9 ∧ p10 ∧ p11 ∧ p12 ∧ p13 ∧ Below B w1 W) (hB : B ≤ w1.heap.size) : Below B w1 w2 := h.2.2.2.2.2.2.2.2.2.2.2.2.2.2.trans (hb.mono (Nat.le_trans hB h.2.2.2.2.2.2.2.2.2.2.2.2.2.2.size))
theorem bst15 {B : Nat} {w1 W w2 : World} {p0 p1 p2 p3 p4 p5 p6 p7 p8 p9 p10 p11 p12 p13 p14 : Prop} (hb : Below W.heap.size W w2) (h : p0 ∧ p1 ∧ p2 ∧ p3 ∧ p4 ∧ p5 ∧ p6 ∧ p7 ∧ p8 ∧ p9 ∧ p10 ∧ p11 ∧ p12 ∧ p13 ∧ p14 ∧ Below B w1 W) (hB : B ≤ w1.heap.size) : Below B w1 w2 := h.2.2.2.2.2.2.2.2.2.2.2.2.2.2.2.trans (hb.mono (Nat.le_trans hB h.2.2.2.2.2.2.2.2.2.2.2.2.2.2.2.size))
theorem bst16 {B : Nat} {w1 W w2 : World} {p0 p1 p2 p3 p4 p5 p6 p7 p8 p9 p10 p11 p12 p13 p14 p15 : Prop} (hb : Below W.heap.size W w2) (h : p0 ∧ p1 ∧ p2 ∧ p3 ∧ p4 ∧ p5 ∧ p6 ∧ p7 ∧ p8 ∧ p9 ∧ p10 ∧ p11 ∧ p12 ∧ p13 ∧ p14 ∧ p15 ∧ Below B w1 W) (hB : B ≤ w1.heap.size) : Below B w1 w2 := h.2.2.2.2.2.2.2.2.2.2.2.2.2.2.2.2.trans (hb.mono (Nat.le_trans hB h.2.2.2.2.2.2.2.2.2.2.2.2.2.2.2.2.size))
theorem ballocH {B : Nat} {w1 W : World} (h : Below B w1 W) (hB : B ≤ w1.heap.size) (o : Obj) : Below B w1 (W.alloc o) := h.alloc (Nat.le_trans hB h.size) o
theorem quiet_ex {P : Program} {f : FuncId} {args : Array Value} {w : World} {n : Nat} {v : Value}
    (h : Calls P f args (w.drewN n) fun e w' => e = .returned v ∧ ∃ q, w' = (w.drewN n).drewN q) :
    Calls P f args (w.drewN n) fun e w'' => e = .returned v ∧ ∃ m, w'' = w.drewN m :=
  h.mono fun _ _ ⟨he, q, hq⟩ => ⟨he, n + q, by rw [hq, World.drewN_drewN]⟩
end Go.Proofs.YtcdplfjegopmdaaGreat
