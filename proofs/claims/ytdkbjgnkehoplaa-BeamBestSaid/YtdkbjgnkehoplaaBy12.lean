/- Lemmas: Wt, Rc, Yb, E39, E40, E42. -/
import Derived.Lib.MinMax
import Derived.BigQuiet
import Derived.Test.YtdkbjgnkehoplaaBy06
import Derived.Test.YtdkbjgnkehoplaaBy10
import Derived.Test.YtdkbjgnkehoplaaBy11
set_option linter.unusedVariables false
set_option linter.unusedSimpArgs false
/- OffsetOf without a walk: its errors, products, sums, and the best of them. -/
namespace Go.Proofs.Ytdkbjgnkehoplaa
open Go.RowKit
def offE (n m : Nat) (F G : Nat → Num) : Int := firstE [unI (decide (0 < n) && ((m : Int) == (n : Int))) 10, unI (decide ((n : Int) ≤ 16)) 8, numsE 100 F n, numsE 100 G m]
def offP (F G : Nat → Num) (i : Nat) : Num := (F i).conj.prod (G i)
def offS (P : Nat → Num) (n f : Nat) : Num := sumF (fun i => (P i).turns ((-(f : Int) * (i : Int)) % 8).toNat) n
/-- The best offset of the first f ones, and its square. -/
def offB (P : Nat → Num) (n : Nat) : Nat → Int × Int × Int
  | 0 => (0, 0, 0)
  | f + 1 => if 0 < compI ((offS P n f).sqP - (offB P n f).2.1) ((offB P n f).2.2 - (offS P n f).sqQ) then ((f : Int), (offS P n f).sqP, (offS P n f).sqQ) else offB P n f
/-- What OffsetOf hands back. -/
def offR (n m : Nat) (F G : Nat → Num) : Int := if offE n m F G = 0 then (offB (offP F G) n 8).1 else 0
theorem badE_zero {g : Nat → Int} : ∀ {n : Nat}, badE g n = 0 → ∀ i, i < n → g i = 0
  | 0, _, i, hi => absurd hi (Nat.not_lt_zero i)
  | n + 1, h, i, hi => by
    unfold badE at h
    by_cases h0 : badE g n = 0
    · rw [if_pos h0] at h
      rcases Nat.lt_or_ge i n with h1 | h1
      · exact badE_zero h0 i h1
      · obtain rfl : i = n := by omega
        exact h
    · rw [if_neg h0] at h; exact absurd h h0
theorem numsE_zero {M : Int} {F : Nat → Num} {n : Nat} (h : numsE M F n = 0) : ∀ i, i < n → (F i).Within M := fun i hi => err_within (badE_zero h i hi)
theorem firstE_nil {a : Int} {r : List Int} (h : firstE (a :: r) = 0) : a = 0 ∧ firstE r = 0 := by
  rw [firstE] at h
  by_cases ha : a = 0
  · rw [if_pos ha] at h; exact ⟨ha, h⟩
  · rw [if_neg ha] at h; exact absurd h ha
theorem unI_zero {b : Bool} {e : Int} (he : e ≠ 0) (h : unI b e = 0) : b = true := by
  unfold unI at h
  cases b
  · exact absurd h (by simpa using he)
  · rfl
theorem offE_zero {n m : Nat} {F G : Nat → Num} (h : offE n m F G = 0) : 0 < n ∧ m = n ∧ n ≤ 16 ∧ (∀ i, i < n → (F i).Within 100) ∧ ∀ i, i < n → (G i).Within 100 := by
  unfold offE at h
  obtain ⟨h1, h⟩ := firstE_nil h
  obtain ⟨h2, h⟩ := firstE_nil h
  obtain ⟨h3, h⟩ := firstE_nil h
  obtain ⟨h4, -⟩ := firstE_nil h
  have k1 := unI_zero (by decide) h1
  have k2 := unI_zero (by decide) h2
  simp at k1 k2
  obtain ⟨k0, k1⟩ := k1
  have e : m = n := by omega
  subst e
  exact ⟨k0, rfl, by omega, numsE_zero h3, numsE_zero h4⟩
theorem Num.Within.conj {M : Int} {x : Num} (h : x.Within M) : x.conj.Within M :=
  ⟨h.a, by have := h.d; show -M ≤ -x.d ∧ -x.d ≤ M; omega, by have := h.c; show -M ≤ -x.c ∧ -x.c ≤ M; omega, by have := h.b; show -M ≤ -x.b ∧ -x.b ≤ M; omega⟩
theorem offP_within {F G : Nat → Num} {i : Nat} (h : (F i).Within 100) (k : (G i).Within 100) : (offP F G i).Within 40000 := by
  have := Num.Within.prodTo h.conj k 4
  exact this.more (by decide)
theorem sums_within {P : Nat → Num} {n : Nat} (hn : n ≤ 16) (h : ∀ i, i < n → (P i).Within 40000) (f : Int) : ∀ k, k ≤ n → (sumF (fun i => (P i).turns ((f * (i : Int)) % 8).toNat) k).Within 640000 := fun k hk =>
  (sumF_within (M := 40000) fun j hj => (h j (by omega)).turns _).more (by omega)
theorem offS_within {P : Nat → Num} {n : Nat} (hn : n ≤ 16) (h : ∀ i, i < n → (P i).Within 40000) (f : Nat) : (offS P n f).Within 640000 := sums_within hn h (-(f : Int)) n (Nat.le_refl n)
theorem Num.Within.squares {x : Num} (h : x.Within 640000) : (-2000000000000 ≤ x.sqP ∧ x.sqP ≤ 2000000000000) ∧ -2000000000000 ≤ x.sqQ ∧ x.sqQ ≤ 2000000000000 := by
  obtain ⟨ha, hb, hc, hd⟩ := h
  have m1 := mul_within ha ha
  have m2 := mul_within hb hb
  have m3 := mul_within hc hc
  have m4 := mul_within hd hd
  have m5 := mul_within ha hb
  have m6 := mul_within hb hc
  have m7 := mul_within hc hd
  have m8 := mul_within ha hd
  unfold Num.sqP Num.sqQ
  omega
theorem offB_within {P : Nat → Num} {n : Nat} (hn : n ≤ 16) (h : ∀ i, i < n → (P i).Within 40000) : ∀ f, (-2000000000000 ≤ (offB P n f).2.1 ∧ (offB P n f).2.1 ≤ 2000000000000) ∧ -2000000000000 ≤ (offB P n f).2.2 ∧ (offB P n f).2.2 ≤ 2000000000000
  | 0 => by
    show (-2000000000000 ≤ (0 : Int) ∧ (0 : Int) ≤ 2000000000000) ∧ -2000000000000 ≤ (0 : Int) ∧ (0 : Int) ≤ 2000000000000
    exact ⟨⟨by decide, by decide⟩, by decide, by decide⟩
  | f + 1 => by
    unfold offB
    split
    · exact (offS_within hn h f).squares
    · exact offB_within hn h f
theorem OwnNums.form {w : World} {base n : Nat} {v : Value} {F : Nat → Num} (h : OwnNums w base v n F) : ∃ A c, v = .slice A n c ∧ n ≤ c ∧ NumsAt w base A n F := by
  have h' := h
  rcases h.2 with ⟨rfl, hx⟩ | ⟨g, cap, cur, rfl, hb, hg, hnc, hm, hsz, htake⟩
  · subst hx
    exact ⟨_, _, rfl, Nat.le_refl _, NumsAt.nil_⟩
  · exact ⟨_, _, rfl, hnc, OwnNums.nums (c := cap) h'⟩
theorem cells8_below {W W' : World} {p0 p1 p2 p3 p4 p5 p6 p7 : Addr} {v0 v1 v2 v3 v4 v5 v6 v7 : Value} (hb : Below W.heap.size W W') (h : W.cell? p0 = some v0 ∧ W.cell? p1 = some v1 ∧ W.cell? p2 = some v2 ∧ W.cell? p3 = some v3 ∧ W.cell? p4 = some v4 ∧ W.cell? p5 = some v5 ∧ W.cell? p6 = some v6 ∧ W.cell? p7 = some v7) :
    W'.cell? p0 = some v0 ∧ W'.cell? p1 = some v1 ∧ W'.cell? p2 = some v2 ∧ W'.cell? p3 = some v3 ∧ W'.cell? p4 = some v4 ∧ W'.cell? p5 = some v5 ∧ W'.cell? p6 = some v6 ∧ W'.cell? p7 = some v7 := by
  obtain ⟨h0, h1, h2, h3, h4, h5, h6, h7⟩ := h
  have f := fun (p : Addr) (v : Value) (h : W.cell? p = some v) => (hb.cell (World.block_lt_of_cell? W p h)).trans h
  exact ⟨f _ _ h0, f _ _ h1, f _ _ h2, f _ _ h3, f _ _ h4, f _ _ h5, f _ _ h6, f _ _ h7⟩
end Go.Proofs.Ytdkbjgnkehoplaa
/- clipped, Clipped of the code. -/
namespace Go.Proofs.Ytdkbjgnkehoplaa
open Go.RowKit
/-- A part that is clipped. -/
def clipI (m p : Int) : Int := max (-m) (min p m)
def clipG (m : Int) (x : Gau) : Gau := ⟨clipI m x.re, clipI m x.im⟩
theorem clipI_within {m : Int} (h : 0 ≤ m) (p : Int) : -m ≤ clipI m p ∧ clipI m p ≤ m := by unfold clipI; omega
theorem clipI_le {m : Int} (h : 0 ≤ m) (p : Int) (M : Int) (hM : m ≤ M) : -M ≤ clipI m p ∧ clipI m p ≤ M := by unfold clipI; omega
/-- The error of clipped numbers. -/
def clipE (n : Nat) (F : Nat → Gau) (m : Int) : Int := firstE [unI (decide ((n : Int) ≤ 120)) 8, gausE 10000 F n, unI (withinB m 0 10000) 2]
theorem clipE_zero {n : Nat} {F : Nat → Gau} {m : Int} (h : clipE n F m = 0) : n ≤ 120 ∧ gausE 10000 F n = 0 ∧ 0 ≤ m ∧ m ≤ 10000 := by
  unfold clipE at h
  obtain ⟨h1, h⟩ := firstE_nil h
  obtain ⟨h2, h⟩ := firstE_nil h
  obtain ⟨h3, -⟩ := firstE_nil h
  have h1 := unI_zero (by decide) h1
  have h3 := withinB_iff.1 (unI_zero (by decide) h3)
  simp at h1
  exact ⟨by omega, h2, h3⟩
/-- What a call that gives numbers hands back beside its error V. -/
def GotG (W : World) (V : Int) (v : Value) (m : Nat) (F : Nat → Gau) : Prop := (V = 0 ∧ ∃ X x, v = .slice X m x ∧ GausAt W 0 X m F) ∨ (V ≠ 0 ∧ v = .slice none 0 0)
theorem GotG.below {W W' : World} {V : Int} {v : Value} {m : Nat} {F : Nat → Gau} (h : GotG W V v m F) (hb : Below W.heap.size W W') : GotG W' V v m F := by
  rcases h with ⟨h0, X, x, h1, h2⟩ | h
  · exact .inl ⟨h0, X, x, h1, h2.below hb⟩
  · exact .inr h
theorem World.cell_put2 {w : World} {b c o p : Nat} {v : Value} (h : w.cell? ⟨b, p, none⟩ = some v) (hn : b ≠ c) (u0 u1 : Value) : ((w.setCell ⟨c, o, none⟩ u0).setCell ⟨c, o + 1, none⟩ u1).cell? ⟨b, p, none⟩ = some v := by
  have f := fun (W : World) (q : Nat) (u : Value) (h : W.cell? ⟨b, p, none⟩ = some v) => (World.cell?_of_block (w := W) (w' := W.setCell ⟨c, q, none⟩ u) (a := ⟨b, p, none⟩) (heap_setCell_other W ⟨c, q, none⟩ b u hn)).trans h
  exact f _ _ _ (f _ _ _ h)
end Go.Proofs.Ytdkbjgnkehoplaa
/- commonDivisor and between of the code. -/
namespace Go.Proofs.Ytdkbjgnkehoplaa
open Go.RowKit
theorem gcd_step (p q : Int) : Int.gcd q (p.tmod q) = Int.gcd p q := by
  show Nat.gcd q.natAbs (p.tmod q).natAbs = Nat.gcd p.natAbs q.natAbs
  rw [Int.natAbs_tmod, Nat.gcd_comm q.natAbs (p.natAbs % q.natAbs), ← Nat.gcd_rec, Nat.gcd_comm]
theorem gcd_size (p : Int) : max p (-p) = ((Int.gcd p 0 : Nat) : Int) := by
  unfold Int.gcd
  simp only [Int.natAbs_zero, Nat.gcd_zero_right]
  omega
theorem tmod_size (p q : Int) (h : q ≠ 0) : (p.tmod q).natAbs < q.natAbs ∧ (p.tmod q).natAbs ≤ p.natAbs := by
  rw [Int.natAbs_tmod]
  exact ⟨Nat.mod_lt _ (by omega), Nat.mod_le _ _⟩
theorem tdiv_size (p q : Int) : (p.tdiv q).natAbs ≤ p.natAbs := by
  rw [Int.natAbs_tdiv]
  exact Nat.div_le_self _ _
theorem gcd_le {p q M : Int} (hp : -M ≤ p ∧ p ≤ M) (hq : -M ≤ q ∧ q ≤ M) : 0 ≤ ((Int.gcd p q : Nat) : Int) ∧ ((Int.gcd p q : Nat) : Int) ≤ M := by
  refine ⟨Int.natCast_nonneg _, ?_⟩
  unfold Int.gcd
  rcases Nat.eq_zero_or_pos p.natAbs with h | h
  · rw [h, Nat.gcd_zero_left]
    omega
  · have := Nat.gcd_le_left q.natAbs h
    omega
theorem gcd_pos {p q : Int} (hp : 0 < p) : 0 < ((Int.gcd p q : Nat) : Int) ∧ ((Int.gcd p q : Nat) : Int) ≤ p := by
  unfold Int.gcd
  have h : 0 < p.natAbs := by omega
  have h1 := Nat.gcd_pos_of_pos_left q.natAbs h
  have h2 := Nat.gcd_le_left q.natAbs h
  omega
set_option maxHeartbeats 1000000 in
theorem commonDivisor_any (a b M : Int) (w : World) (ha : -M ≤ a ∧ a ≤ M) (hb : -M ≤ b ∧ b ≤ M) (hM : M ≤ 9000000000000000000) :
    Calls Try.prog 130 #[.int .i64 a, .int .i64 b] w fun e w' => e = .returned (.int .i64 ((Int.gcd a b : Nat) : Int)) ∧ Below w.heap.size w w' := by
  have HH := hide (show (Int.gcd a b = Int.gcd a b) ∧ (-M ≤ a ∧ a ≤ M) ∧ (-M ≤ b ∧ b ≤ M) from ⟨rfl, ha, hb⟩)
  obtain ⟨g, hg⟩ : ∃ g, g = Int.gcd a b := ⟨_, rfl⟩
  rw [← hg]
  have HG := hide hg
  clear ha hb hg
  go_enter Try.func130, Try.ntmps130
  go_wp2_with fail
  go_loopw [0, 1] (fun x y wr => ∃ p q : Int, x = .int .i64 p ∧ y = .int .i64 q ∧ Hid (Int.gcd p q = g ∧ (-M ≤ p ∧ p ≤ M) ∧ (-M ≤ q ∧ q ≤ M)) ∧ Below w.heap.size w wr) (fun _ y _ => (Go.RowKit.intOf y).natAbs)
  case atStart => exact ⟨a, b, rfl, rfl, hide ⟨HG.out.symm, HH.out.2⟩, Below.refl _ _⟩
  case round =>
    clear HH HG
    obtain ⟨p, q, rfl, rfl, HP, hB⟩ := hrel
    obtain ⟨wA, rfl⟩ : ∃ x : World, x = wr := ⟨_, rfl⟩
    have HB := hide hB
    clear hB
    by_cases hq : q = 0
    · subst hq
      have HE := hide (show max p (-p) = ((g : Nat) : Int) by rw [gcd_size, HP.out.1])
      have q1 : IntKind.i64.wrap (-p) = -p := IntWalk.i64_in _ (by have := HP.out.2.1; omega)
      clear HP
      go_wp2_with fail
      go_ret
      exact ⟨by rw [← HE.out]; rfl, HB.out⟩
    · have t0 : (q != 0) = true := by simpa using hq
      obtain ⟨h1, h2⟩ := tmod_size p q hq
      have q1 : IntKind.i64.wrap (p.tmod q) = p.tmod q := IntWalk.i64_in _ (by have := HP.out.2.1; omega)
      have HN := hide (show Int.gcd q (p.tmod q) = g ∧ (-M ≤ q ∧ q ≤ M) ∧ (-M ≤ p.tmod q ∧ p.tmod q ≤ M) from ⟨(gcd_step p q).trans HP.out.1, HP.out.2.2, by have := HP.out.2.1; omega⟩)
      have HL := hide h1
      clear HP h1 h2
      go_wp2_with fail
      go_quiet (fail)
      go_wp2_with fail
      go_roundw
      case rel => exact ⟨q, p.tmod q, rfl, rfl, HN, Go.below_drewN HB.out _⟩
      case measure => simp only [Go.RowKit.intOf]; exact HL.out
/-- The number k of s steps from x to y, s times. -/
def btw (x y k s : Int) : Int := x * (s - k) + y * k
def betD (a b : Gau) (k s : Int) : Nat := Int.gcd s ((Int.gcd (btw a.re b.re k s) (btw a.im b.im k s) : Nat) : Int)
def betP (a b : Gau) (k s : Int) : Pha := ⟨(btw a.re b.re k s).tdiv (betD a b k s), (btw a.im b.im k s).tdiv (betD a b k s), s.tdiv (betD a b k s)⟩
theorem btw_parts {x y k s : Int} (hx : -10000 ≤ x ∧ x ≤ 10000) (hy : -10000 ≤ y ∧ y ≤ 10000) (hk : 0 ≤ k ∧ k ≤ s) (hs : s ≤ 20) : (-200000 ≤ x * (s - k) ∧ x * (s - k) ≤ 200000) ∧ (-200000 ≤ y * k ∧ y * k ≤ 200000) := by
  have h1 := mul_within (M := 10000) (N := 20) hx (show -20 ≤ s - k ∧ s - k ≤ 20 by omega)
  have h2 := mul_within (M := 10000) (N := 20) hy (show -20 ≤ k ∧ k ≤ 20 by omega)
  omega
theorem Box.put3 {w : World} {b : Nat} {t : TypeId} {p0 p1 p2 : Value} (h : Box w b t #[p0, p1, p2]) (u0 u1 u2 : Value) : Box (((w.setCell ⟨b, 0, none⟩ u0).setCell ⟨b, 1, none⟩ u1).setCell ⟨b, 2, none⟩ u2) b t #[u0, u1, u2] := by
  have := ((h.set_ 0 u0).set_ 1 u1).set_ 2 u2
  simpa using this
theorem Box.cells3 {w : World} {b : Nat} {t : TypeId} {p0 p1 p2 : Value} (h : Box w b t #[p0, p1, p2]) :
    w.cell? ⟨b, 0, none⟩ = some p0 ∧ w.cell? ⟨b, 1, none⟩ = some p1 ∧ w.cell? ⟨b, 2, none⟩ = some p2 ∧ w.frozen? ⟨b, 0, none⟩ = false ∧ w.frozen? ⟨b, 1, none⟩ = false ∧ w.frozen? ⟨b, 2, none⟩ = false ∧ b < w.heap.size :=
  ⟨h.at_ 0, h.at_ 1, h.at_ 2, h.free 0, h.free 1, h.free 2, h.lt⟩
end Go.Proofs.Ytdkbjgnkehoplaa
/- energyOf, partOf, InnerOf, PartOf, KeptOf of the code. -/
namespace Go.Proofs.Ytdkbjgnkehoplaa
open Go.RowKit Go.Great
/-- At most 8 small numbers. -/
structure OkC (n : Nat) (X : Nat → Gau) : Prop where
  n8 : n ≤ 8
  small : ∀ j, j < n → (X j).Within 30
theorem OkC.more {n : Nat} {X : Nat → Gau} (h : OkC n X) : ∀ j, j < n → (X j).Within 1000000 := fun j hj => (h.small j hj).more (by decide)
theorem OkC.energy {n : Nat} {X : Nat → Gau} (h : OkC n X) : 0 ≤ enI X n ∧ enI X n ≤ 14400 := by
  have h1 := enI_nonneg X n
  have h2 := enI_le h.small
  have h3 := h.n8
  omega
theorem OkC.inner {n : Nat} {X Y : Nat → Gau} (h : OkC n X) (k : OkC n Y) : (-14400 ≤ inA X Y n ∧ inA X Y n ≤ 14400) ∧ -14400 ≤ inB X Y n ∧ inB X Y n ≤ 14400 := by
  have h1 := inA_le (M := 30) fun j hj => ⟨h.small j hj, k.small j hj⟩
  have h2 := inB_le (M := 30) fun j hj => ⟨h.small j hj, k.small j hj⟩
  have h3 := h.n8
  omega
theorem OkC.norm {n : Nat} {X Y : Nat → Gau} (h : OkC n X) (k : OkC n Y) : (0 ≤ inA X Y n * inA X Y n ∧ inA X Y n * inA X Y n ≤ 207360000) ∧ 0 ≤ inB X Y n * inB X Y n ∧ inB X Y n * inB X Y n ≤ 207360000 := by
  obtain ⟨h1, h2⟩ := h.inner k
  exact ⟨⟨sq_nonneg _, part_sq h1⟩, sq_nonneg _, part_sq h2⟩
theorem OkC.both {n : Nat} {X Y : Nat → Gau} (h : OkC n X) (k : OkC n Y) : 0 ≤ enI X n * enI Y n ∧ enI X n * enI Y n ≤ 207360000 := by
  obtain ⟨h1, h2⟩ := h.energy
  obtain ⟨k1, k2⟩ := k.energy
  exact ⟨Int.mul_nonneg h1 k1, Int.mul_le_mul h2 k2 k1 (by decide)⟩
theorem chE_ok {n : Nat} {X : Nat → Gau} (h : chE n X = 0) : OkC n X := ⟨(chE_zero h).1.2, (chE_zero h).2⟩
theorem tchE_ok {n m : Nat} {X Y : Nat → Gau} (h : tchE n m X Y = 0) : m = n ∧ OkC n X ∧ OkC n Y ∧ 0 < enI X n ∧ 0 < enI Y n := by
  obtain ⟨h1, h2, h3⟩ := tchE_zero h
  obtain ⟨h4, h5, rfl⟩ := bthE_zero h1
  rw [hrB_energy, bne_iff_ne] at h2 h3
  have k2 := enI_nonneg X m
  have k3 := enI_nonneg Y m
  exact ⟨rfl, chE_ok h4, chE_ok h5, by omega, by omega⟩
set_option maxHeartbeats 2000000 in
set_option maxRecDepth 100000 in
theorem energyOf_any (A : Option Addr) (n c : Nat) (X : Nat → Gau) (w : World) (h : OkC n X) (hI : GausAt w 0 A n X) :
    Calls Try.prog 129 #[.slice A n c] w fun e w' => e = .returned (.int .i64 (enI X n)) ∧ Below w.heap.size w w' := by
  have hn8 := h.n8
  have HCO := hide (fun W (k : GausAt W 0 A n X) => complexOf_any A n c X W (by omega) k)
  have HIN := hide (fun (B : Option Addr) W (k : CpxAt W B n (cU X) (cV X)) => inner_any B B n n n (cU X) (cV X) (cU X) (cV X) X X W (by omega) k k h.more h.more (cUV_whole h.more) (cUV_whole h.more))
  rw [inA_self] at HIN
  have HBD := hide h.energy
  have HI := hide hI
  obtain ⟨E, hE⟩ : ∃ z, enI X n = z := ⟨_, rfl⟩
  simp only [hE] at HIN HBD ⊢
  clear hI h hE
  go_enter Try.func129, Try.ntmps129
  go_wp2_with fail
  refine (HCO.out _ HI.out).mono ?_
  rintro e w1 ⟨B, rfl, hC, hb1⟩
  have HB1 := hide hb1
  clear hb1
  go_wp2_with fail
  refine (HIN.out _ _ hC).mono ?_
  rintro e w2 ⟨r, z, rfl, hr, hz, hb2⟩
  have c1 := fun W => run_convert_float_int (P := Try.prog) W 165 3 .f64 .i64 r E rfl Try.underlying3 (whole_toInt hr (abs_lt (M := 14400) (by have := HBD.out; omega) (by decide)))
  clear hC hr hz
  go_wp2_with fail
  go_ret
  exact ⟨rfl, HB1.out.trans (hb2.mono HB1.out.size)⟩
/-- What two channels have in common and what both have, in lowest terms. -/
def ptG (X Y : Nat → Gau) (n : Nat) : Int := ((Int.gcd (nmI X Y n) (enI X n * enI Y n) : Nat) : Int)
def ptN (X Y : Nat → Gau) (n : Nat) : Int := (nmI X Y n).tdiv (ptG X Y n)
def ptD (X Y : Nat → Gau) (n : Nat) : Int := (enI X n * enI Y n).tdiv (ptG X Y n)
theorem OkC.common {n : Nat} {X Y : Nat → Gau} (h : OkC n X) (k : OkC n Y) (hx : 0 < enI X n) (hy : 0 < enI Y n) : 0 < ptG X Y n ∧ ptG X Y n ≤ 207360000 := by
  have hp := Int.mul_pos hx hy
  have h1 := gcd_pos (q := nmI X Y n) hp
  have h2 := (h.both k).2
  unfold ptG
  rw [Int.gcd_comm]
  omega
theorem OkC.parts {n : Nat} {X Y : Nat → Gau} (h : OkC n X) (k : OkC n Y) (hx : 0 < enI X n) : (0 ≤ ptN X Y n ∧ ptN X Y n ≤ 207360000) ∧ (0 ≤ ptD X Y n ∧ ptD X Y n ≤ 207360000) := by
  have h1 := nmI_nonneg X Y n
  have h2 := nmI_le (H := Y) hx
  obtain ⟨h3, h4⟩ := h.both k
  have g0 : 0 ≤ ptG X Y n := Int.natCast_nonneg _
  have a1 := tdiv_size (nmI X Y n) (ptG X Y n)
  have a2 := tdiv_size (enI X n * enI Y n) (ptG X Y n)
  have b1 := Int.tdiv_nonneg h1 g0
  have b2 := Int.tdiv_nonneg h3 g0
  unfold ptN ptD
  omega

end Go.Proofs.Ytdkbjgnkehoplaa
/- partOf of the code. -/
namespace Go.Proofs.Ytdkbjgnkehoplaa
open Go.RowKit Go.Great
set_option maxHeartbeats 4000000 in
set_option maxRecDepth 100000 in
theorem partOf_any (A B : Option Addr) (n c d : Nat) (X Y : Nat → Gau) (w : World) (h : OkC n X) (k : OkC n Y) (hx : 0 < enI X n) (hy : 0 < enI Y n) (hI : GausAt w 0 A n X) (hJ : GausAt w 0 B n Y) :
    Calls Try.prog 85 #[.slice A n c, .slice B n d] w fun e w' => e = .returned (.agg #[.int .i64 (ptN X Y n), .int .i64 (ptD X Y n)]) ∧ Below w.heap.size w w' := by
  have hn8 := h.n8
  have HI := hide hI
  have HJ := hide hJ
  have HCX := hide (fun W (k : GausAt W 0 A n X) => complexOf_any A n c X W (by omega) k)
  have HCY := hide (fun W (k : GausAt W 0 B n Y) => complexOf_any B n d Y W (by omega) k)
  have HIN := hide (fun (C D : Option Addr) W (u : CpxAt W C n (cU X) (cV X)) (v : CpxAt W D n (cU Y) (cV Y)) => inner_any C D n n n (cU X) (cV X) (cU Y) (cV Y) X Y W (by omega) u v h.more k.more (cUV_whole h.more) (cUV_whole k.more))
  have HEX := hide (fun W (u : GausAt W 0 A n X) => energyOf_any A n c X W h u)
  have HEY := hide (fun W (u : GausAt W 0 B n Y) => energyOf_any B n d Y W k u)
  have HBI := hide (h.inner k)
  have HBN := hide (h.norm k)
  have HBB := hide (h.both k)
  have HBG := hide (h.common k hx hy)
  have HBE := hide (show (0 ≤ enI X n ∧ enI X n ≤ 14400) ∧ 0 ≤ enI Y n ∧ enI Y n ≤ 14400 from ⟨h.energy, k.energy⟩)
  have HP := hide (h.parts k hx)
  have HG := hide (show ((Int.gcd (nmI X Y n) (enI X n * enI Y n) : Nat) : Int) = ptG X Y n from rfl)
  have HN := hide (show (nmI X Y n).tdiv (ptG X Y n) = ptN X Y n from rfl)
  have HD := hide (show (enI X n * enI Y n).tdiv (ptG X Y n) = ptD X Y n from rfl)
  have HM := hide (show inA X Y n * inA X Y n + inB X Y n * inB X Y n = nmI X Y n from rfl)
  obtain ⟨N, hN⟩ : ∃ z, ptN X Y n = z := ⟨_, rfl⟩
  obtain ⟨D, hD⟩ : ∃ z, ptD X Y n = z := ⟨_, rfl⟩
  obtain ⟨G, hG⟩ : ∃ z, ptG X Y n = z := ⟨_, rfl⟩
  obtain ⟨M, hM⟩ : ∃ z, nmI X Y n = z := ⟨_, rfl⟩
  obtain ⟨I, hIa⟩ : ∃ z, inA X Y n = z := ⟨_, rfl⟩
  obtain ⟨J, hJa⟩ : ∃ z, inB X Y n = z := ⟨_, rfl⟩
  obtain ⟨E, hE⟩ : ∃ z, enI X n = z := ⟨_, rfl⟩
  obtain ⟨F, hF⟩ : ∃ z, enI Y n = z := ⟨_, rfl⟩
  simp only [hN, hD, hG, hM, hIa, hJa, hE, hF] at HIN HEX HEY HBI HBN HBB HBG HBE HP HG HN HD HM ⊢
  clear hN hD hG hM hIa hJa hE hF hI hJ h k hx hy
  go_enter Try.func85, Try.ntmps85
  go_upto_region 1 with fail
  obtain ⟨w_1, hw_1⟩ : ∃ q : World, q = (w.alloc (.cells #[.int .i64 0, .int .i64 0] 57)) := ⟨_, rfl⟩
  try rw [← hw_1]
  have HX0 := hide (show Box w_1 (w.heap.size) 57 #[.int .i64 0, .int .i64 0] by rw [hw_1]; exact Box.made rfl)
  have HB := hide (show Below w.heap.size w w_1 by rw [hw_1]; (repeat (first | (with_reducible exact Below.refl _ _) | (with_reducible refine Go.below_drewN ?_ _) | (with_reducible refine Below.drew ?_) | (with_reducible refine Below.alloc ?_ (by first | exact Nat.le_refl _ | (simp; done) | (simp; omega) | omega) _) | (with_reducible refine Below.setCell ?_ (by first | exact Nat.le_refl _ | (simp; done) | (simp; omega) | omega) _))))
  clear hw_1
  go_wp2_with fail
  refine (HCX.out _ (HI.out.below HB.out)).mono ?_
  rintro e_ w_2 ⟨C, rfl, hC, hb_2⟩
  replace HX0 := hide (HX0.out.below hb_2)
  replace HB := hide (HB.out.trans (hb_2.mono HB.out.size))
  clear hb_2
  have HC1 := hide hC
  clear hC
  go_wp2_with fail
  refine (HCY.out _ (HJ.out.below HB.out)).mono ?_
  rintro e_ w_3 ⟨K, rfl, hK, hb_3⟩
  replace HX0 := hide (HX0.out.below hb_3)
  replace HC1 := hide (HC1.out.below hb_3)
  replace HB := hide (HB.out.trans (hb_3.mono HB.out.size))
  clear hb_3
  have HK1 := hide hK
  clear hK
  go_wp2_with fail
  refine (HIN.out _ _ _ HC1.out HK1.out).mono ?_
  rintro e_ w_4 ⟨r, z, rfl, hr, hz, hb_4⟩
  replace HX0 := hide (HX0.out.below hb_4)
  replace HC1 := hide (HC1.out.below hb_4)
  replace HK1 := hide (HK1.out.below hb_4)
  replace HB := hide (HB.out.trans (hb_4.mono HB.out.size))
  clear hb_4
  clear HC1 HK1
  have HAG := hide (fun W => asGauss_any r z I J W hr hz (abs_lt (M := 14400) (by have := HBI.out; omega) (by decide)) (abs_lt (M := 14400) (by have := HBI.out; omega) (by decide)))
  clear hr hz
  go_wp2_with fail
  refine (HAG.out _).mono ?_
  rintro e_ w_5 ⟨rfl, hb_5⟩
  replace HX0 := hide (HX0.out.below hb_5)
  replace HB := hide (HB.out.trans (hb_5.mono HB.out.size))
  clear hb_5
  go_upto_region 2 with fail
  obtain ⟨g5, hg5⟩ : ∃ q, w_5.heap.size = q := ⟨_, rfl⟩
  obtain ⟨w_6, hw_6⟩ : ∃ q : World, q = w_5.alloc (.cells #[.int .i64 I, .int .i64 J] 53) := ⟨_, rfl⟩
  try rw [← hw_6]
  have HX5 := hide (show Box w_6 g5 53 #[.int .i64 I, .int .i64 J] by rw [hw_6]; exact Box.made hg5.symm)
  have hc_6 : Below w_5.heap.size w_5 w_6 := by rw [hw_6]; exact (Below.refl _ _).alloc (Nat.le_refl _) _
  clear hw_6
  replace HX0 := hide (HX0.out.below hc_6)
  replace HB := hide (HB.out.trans (hc_6.mono HB.out.size))
  clear hc_6
  try simp only [hg5]
  clear hg5
  have q1 : IntKind.i64.wrap (I * I) = I * I := IntWalk.i64_in _ (by have := HBN.out; omega)
  have q2 : IntKind.i64.wrap (J * J) = J * J := IntWalk.i64_in _ (by have := HBN.out; omega)
  have q3 : IntKind.i64.wrap (I * I + J * J) = M := by rw [IntWalk.i64_in _ (by have := HBN.out; omega)]; exact HM.out
  obtain ⟨y0, y1, -, -, hly⟩ := HX5.out.c2
  go_wp2_with fail
  clear q1 q2 q3 y0 y1 hly
  refine (HEX.out _ (HI.out.below HB.out)).mono ?_
  rintro e_ w_7 ⟨rfl, hb_7⟩
  replace HX0 := hide (HX0.out.below hb_7)
  replace HX5 := hide (HX5.out.below hb_7)
  replace HB := hide (HB.out.trans (hb_7.mono HB.out.size))
  clear hb_7
  go_wp2_with fail
  refine (HEY.out _ (HJ.out.below HB.out)).mono ?_
  rintro e_ w_8 ⟨rfl, hb_8⟩
  replace HX0 := hide (HX0.out.below hb_8)
  replace HX5 := hide (HX5.out.below hb_8)
  replace HB := hide (HB.out.trans (hb_8.mono HB.out.size))
  clear hb_8
  obtain ⟨P, hP⟩ : ∃ z, E * F = z := ⟨_, rfl⟩
  simp only [hP] at HBB HG HD
  have q4 : IntKind.i64.wrap (E * F) = P := by rw [hP]; exact IntWalk.i64_in _ (by have := HBB.out; omega)
  clear hP
  have HCD := hide (fun W => (show Calls Try.prog 130 #[.int .i64 M, .int .i64 P] W fun e w' => e = .returned (.int .i64 G) ∧ Below W.heap.size W w' by
      have := commonDivisor_any M P 1000000000 W (by have := HBN.out; have := HM.out; omega) (by have := HBB.out; omega) (by decide)
      rw [HG.out] at this
      exact this))
  go_wp2_with fail
  clear q4
  refine (HCD.out _).mono ?_
  rintro e_ w_9 ⟨rfl, hb_9⟩
  replace HX0 := hide (HX0.out.below hb_9)
  replace HX5 := hide (HX5.out.below hb_9)
  replace HB := hide (HB.out.trans (hb_9.mono HB.out.size))
  clear hb_9
  have gne : ¬ G = 0 := by have := HBG.out; omega
  have t3 : (G == 0) = false := by simpa using gne
  have q5 : M.tdiv G = N := HN.out
  have q6 : P.tdiv G = D := HD.out
  have q7 : IntKind.i64.wrap N = N := IntWalk.i64_in _ (by have := HP.out; omega)
  have q8 : IntKind.i64.wrap D = D := IntWalk.i64_in _ (by have := HP.out; omega)
  go_upto_region 5 with fail
  clear HX5
  refine wp_region_held_drew (S := fun w' => Below w.heap.size w w') (by kernel_rfl) HB.out.drew (fun hHeld => ?_)
  obtain ⟨w_10, hw_10⟩ : ∃ q : World, q = w_9.drew := ⟨_, rfl⟩
  rw [← hw_10] at hHeld ⊢
  have hc_10 : Below w_9.heap.size w_9 w_10 := by rw [hw_10]; exact (Below.refl _ _).drew
  clear hw_10
  replace HX0 := hide (HX0.out.below hc_10)
  replace HB := hide (HB.out.trans (hc_10.mono HB.out.size))
  clear hc_10
  refine wpAnyH_take (i := 0) (oi := ⟨some 34, _, _, _, _, _⟩) (v := ?_) rfl (by kernel_rfl) (by kernel_rfl) (by kernel_rfl) (fun _ _ _ h => h) (Or.inl ⟨by rfl, ?_⟩) (by assumption) ?_
  rotate_left
  · (intro w' hSw; (try dsimp only at hSw); go_simp <;> (with_reducible rfl))
  try simp only [Act.put, List.setIfInBounds_toArray, List.set_cons_zero, List.set_cons_succ]
  refine wpAnyH_take (i := 1) (oi := ⟨some 35, _, _, _, _, _⟩) (v := ?_) rfl (by kernel_rfl) (by kernel_rfl) (by kernel_rfl) (fun _ _ _ h => h) (Or.inl ⟨by rfl, ?_⟩) (by assumption) ?_
  rotate_left
  · (intro w' hSw; (try dsimp only at hSw); go_simp <;> (with_reducible rfl))
  try simp only [Act.put, List.setIfInBounds_toArray, List.set_cons_zero, List.set_cons_succ]
  refine wpAnyH_take (i := 2) (oi := ⟨some 36, _, _, _, _, _⟩) (v := ?_) rfl (by kernel_rfl) (by kernel_rfl) (by kernel_rfl) (fun _ _ _ h => h) (Or.inl ⟨by rfl, ?_⟩) (by assumption) ?_
  rotate_left
  · (intro w' hSw; (try dsimp only at hSw); go_simp <;> (with_reducible rfl))
  try simp only [Act.put, List.setIfInBounds_toArray, List.set_cons_zero, List.set_cons_succ]
  refine wpAnyH_take (i := 3) (oi := ⟨some 37, _, _, _, _, _⟩) (v := ?_) rfl (by kernel_rfl) (by kernel_rfl) (by kernel_rfl) (fun _ _ _ h => h) (Or.inl ⟨by rfl, ?_⟩) (by assumption) ?_
  rotate_left
  · (intro w' hSw; (try dsimp only at hSw); go_simp <;> (with_reducible rfl))
  try simp only [Act.put, List.setIfInBounds_toArray, List.set_cons_zero, List.set_cons_succ]
  refine wpAnyH_take (i := 4) (oi := ⟨some 38, _, _, _, _, _⟩) (v := ?_) rfl (by kernel_rfl) (by kernel_rfl) (by kernel_rfl) (fun _ _ _ h => h) (Or.inl ⟨by rfl, ?_⟩) (by assumption) ?_
  rotate_left
  · (intro w' hSw; (try dsimp only at hSw); go_simp <;> (with_reducible rfl))
  try simp only [Act.put, List.setIfInBounds_toArray, List.set_cons_zero, List.set_cons_succ]
  refine wpAnyH_take (i := 5) (oi := ⟨some 39, _, _, _, _, _⟩) (v := ?_) rfl (by kernel_rfl) (by kernel_rfl) (by kernel_rfl) (fun _ _ _ h => h) (Or.inl ⟨by rfl, ?_⟩) (by assumption) ?_
  rotate_left
  · (intro w' hSw; (try dsimp only at hSw); go_simp <;> (with_reducible rfl))
  try simp only [Act.put, List.setIfInBounds_toArray, List.set_cons_zero, List.set_cons_succ]
  refine wpAnyH_take (i := 6) (oi := ⟨some 40, _, _, _, _, _⟩) (v := ?_) rfl (by kernel_rfl) (by kernel_rfl) (by kernel_rfl) (fun _ _ _ h => h) (Or.inl ⟨by rfl, ?_⟩) (by assumption) ?_
  rotate_left
  · (intro w' hSw; (try dsimp only at hSw); go_simp <;> (with_reducible rfl))
  try simp only [Act.put, List.setIfInBounds_toArray, List.set_cons_zero, List.set_cons_succ]
  refine wpAnyH_ready (rs := [7]) (by kernel_rfl) (by simp) ?_
  refine AllReadyH.cons (o := ⟨none, _, _, _, _, _⟩) rfl (fun K' hK => ?_) AllReadyH.nil
  obtain ⟨x0, x1, f0, f1, hlx⟩ := HX0.out.c2
  go_simp
  clear x0 x1 f0 f1 hlx
  replace HX0 := hide (HX0.out.put2 (.int .i64 N) (.int .i64 D))
  replace HB := hide ((HB.out.setCell (p := ⟨w.heap.size, 0, none⟩) (Nat.le_refl _) (.int .i64 N)).setCell (p := ⟨w.heap.size, 1, none⟩) (Nat.le_refl _) (.int .i64 D))
  obtain ⟨w_11, hw_11⟩ : ∃ q : World, (w_10.setCell ⟨w.heap.size, 0, none⟩ (.int .i64 N)).setCell ⟨w.heap.size, 1, none⟩ (.int .i64 D) = q := ⟨_, rfl⟩
  rw [hw_11] at HX0 HB ⊢
  clear hw_11
  refine hK.out _ _ HB.out (fun hHeld => ?_)
  clear hK K'
  try simp only [Act.put, List.setIfInBounds_toArray, List.set_cons_zero, List.set_cons_succ]
  refine wpAnyH_done (by kernel_rfl) ?_ _
  clear hHeld q5 q6 q7 q8 t3 gne
  obtain ⟨x0, x1, -, -, hlx⟩ := HX0.out.c2
  go_wp2_with fail
  refine bodyPost_ret (v := .agg #[.int .i64 N, .int .i64 D]) ?_ rfl ⟨rfl, HB.out⟩
  simp [results, Try.results85, go_sem, x0, x1]
end Go.Proofs.Ytdkbjgnkehoplaa
/- PartOf and KeptOf of the code. -/
namespace Go.Proofs.Ytdkbjgnkehoplaa
open Go.RowKit Go.Great
def poN (n m : Nat) (X Y : Nat → Gau) : Int := if tchE n m X Y = 0 then ptN X Y n else 0
def poD (n m : Nat) (X Y : Nat → Gau) : Int := if tchE n m X Y = 0 then ptD X Y n else 0
set_option maxHeartbeats 4000000 in
set_option maxRecDepth 100000 in
theorem PartOf_any (A B : Option Addr) (n c m d : Nat) (X Y : Nat → Gau) (w : World) (hn : n ≤ 100000) (hm : m ≤ 100000) (hI : GausAt w 0 A n X) (hJ : GausAt w 0 B m Y) :
    Calls Try.prog 29 #[.slice A n c, .slice B m d] w fun e w' => e = .returned (.tuple #[.agg #[.int .i64 (poN n m X Y), .int .i64 (poD n m X Y)], .int .i64 (tchE n m X Y)]) ∧ Below w.heap.size w w' := by
  have HI := hide hI
  have HJ := hide hJ
  have HTE := hide (fun W (h : GausAt W 0 A n X) (k : GausAt W 0 B m Y) => twoChannelsError_any A B n c m d X Y W hn hm h k)
  have HZ := hide (tchE_ok (n := n) (m := m) (X := X) (Y := Y))
  have HN := hide (show poN n m X Y = if tchE n m X Y = 0 then ptN X Y n else 0 from rfl)
  have HD := hide (show poD n m X Y = if tchE n m X Y = 0 then ptD X Y n else 0 from rfl)
  obtain ⟨rn, hrn⟩ : ∃ z, poN n m X Y = z := ⟨_, rfl⟩
  obtain ⟨rd, hrd⟩ : ∃ z, poD n m X Y = z := ⟨_, rfl⟩
  obtain ⟨V, hV⟩ : ∃ z, tchE n m X Y = z := ⟨_, rfl⟩
  simp only [hrn, hrd, hV] at HTE HZ HN HD ⊢
  clear hI hJ hrn hrd hV
  go_enter Try.func29, Try.ntmps29
  go_upto_region 1 with fail
  obtain ⟨w_1, hw_1⟩ : ∃ q : World, q = (w.alloc (.cells #[.int .i64 0, .int .i64 0] 57)) := ⟨_, rfl⟩
  try rw [← hw_1]
  have HX0 := hide (show Box w_1 (w.heap.size) 57 #[.int .i64 0, .int .i64 0] by rw [hw_1]; exact Box.made rfl)
  have HB := hide (show Below w.heap.size w w_1 by rw [hw_1]; (repeat (first | (with_reducible exact Below.refl _ _) | (with_reducible refine Go.below_drewN ?_ _) | (with_reducible refine Below.drew ?_) | (with_reducible refine Below.alloc ?_ (by first | exact Nat.le_refl _ | (simp; done) | (simp; omega) | omega) _) | (with_reducible refine Below.setCell ?_ (by first | exact Nat.le_refl _ | (simp; done) | (simp; omega) | omega) _))))
  clear hw_1
  go_wp2_with fail
  refine (HTE.out _ (HI.out.below HB.out) (HJ.out.below HB.out)).mono ?_
  rintro e_ w_2 ⟨rfl, hb_2⟩
  replace HX0 := hide (HX0.out.below hb_2)
  replace HB := hide (HB.out.trans (hb_2.mono HB.out.size))
  clear hb_2
  by_cases hv : V = 0
  case neg =>
    have tv : (V != 0) = true := by simpa using hv
    rw [if_neg hv] at HN HD
    have HP := hide (HX0.out.put2 (.int .i64 0) (.int .i64 0))
    have HQ := hide ((HB.out.setCell (p := ⟨w.heap.size, 0, none⟩) (Nat.le_refl _) (.int .i64 0)).setCell (p := ⟨w.heap.size, 1, none⟩) (Nat.le_refl _) (.int .i64 0))
    obtain ⟨x0, x1, f0, f1, hlx⟩ := HX0.out.c2
    clear hv
    go_wp2_with fail
    clear x0 x1
    obtain ⟨y0, y1, -, -, hly⟩ := HP.out.c2
    refine bodyPost_ret (v := .tuple #[.agg #[.int .i64 0, .int .i64 0], .int .i64 V]) ?_ rfl ⟨by rw [HN.out, HD.out], HQ.out⟩
    simp [results, Try.results29, go_sem, y0, y1]
  have tv : (V != 0) = false := by simpa using hv
  rw [if_pos hv] at HN HD
  obtain ⟨rfl, hX, hY, hx, hy⟩ := HZ.out hv
  subst hv
  have HPO := hide (fun W (h : GausAt W 0 A m X) (k : GausAt W 0 B m Y) => partOf_any A B m c d X Y W hX hY hx hy h k)
  have HPB := hide (hX.parts hY hx)
  clear HZ HTE hX hY hx hy
  obtain ⟨N, hN⟩ : ∃ z, ptN X Y m = z := ⟨_, rfl⟩
  obtain ⟨D, hD⟩ : ∃ z, ptD X Y m = z := ⟨_, rfl⟩
  simp only [hN, hD] at HPO HPB HN HD
  clear hN hD
  go_wp2_with fail
  refine (HPO.out _ (HI.out.below HB.out) (HJ.out.below HB.out)).mono ?_
  rintro e_ w_3 ⟨rfl, hb_3⟩
  replace HX0 := hide (HX0.out.below hb_3)
  replace HB := hide (HB.out.trans (hb_3.mono HB.out.size))
  clear hb_3
  have HP := hide (HX0.out.put2 (.int .i64 (N)) (.int .i64 D))
  have HQ := hide ((HB.out.setCell (p := ⟨w.heap.size, 0, none⟩) (Nat.le_refl _) (.int .i64 (N))).setCell (p := ⟨w.heap.size, 1, none⟩) (Nat.le_refl _) (.int .i64 D))
  obtain ⟨x0, x1, f0, f1, hlx⟩ := HX0.out.c2
  go_wp2_with fail
  clear x0 x1
  obtain ⟨y0, y1, -, -, hly⟩ := HP.out.c2
  refine bodyPost_ret (v := .tuple #[.agg #[.int .i64 (N), .int .i64 D], .int .i64 0]) ?_ rfl ⟨by rw [HN.out, HD.out], HQ.out⟩
  simp [results, Try.results29, go_sem, y0, y1]
def koN (n m : Nat) (X Y : Nat → Gau) : Int := if tchE n m X Y = 0 then ptD X Y n - ptN X Y n else 0
set_option maxHeartbeats 4000000 in
set_option maxRecDepth 100000 in
theorem KeptOf_any (A B : Option Addr) (n c m d : Nat) (X Y : Nat → Gau) (w : World) (hn : n ≤ 100000) (hm : m ≤ 100000) (hI : GausAt w 0 A n X) (hJ : GausAt w 0 B m Y) :
    Calls Try.prog 30 #[.slice A n c, .slice B m d] w fun e w' => e = .returned (.tuple #[.agg #[.int .i64 (koN n m X Y), .int .i64 (poD n m X Y)], .int .i64 (tchE n m X Y)]) ∧ Below w.heap.size w w' := by
  have HI := hide hI
  have HJ := hide hJ
  have HTE := hide (fun W (h : GausAt W 0 A n X) (k : GausAt W 0 B m Y) => twoChannelsError_any A B n c m d X Y W hn hm h k)
  have HZ := hide (tchE_ok (n := n) (m := m) (X := X) (Y := Y))
  have HN := hide (show koN n m X Y = if tchE n m X Y = 0 then ptD X Y n - ptN X Y n else 0 from rfl)
  have HD := hide (show poD n m X Y = if tchE n m X Y = 0 then ptD X Y n else 0 from rfl)
  obtain ⟨rn, hrn⟩ : ∃ z, koN n m X Y = z := ⟨_, rfl⟩
  obtain ⟨rd, hrd⟩ : ∃ z, poD n m X Y = z := ⟨_, rfl⟩
  obtain ⟨V, hV⟩ : ∃ z, tchE n m X Y = z := ⟨_, rfl⟩
  simp only [hrn, hrd, hV] at HTE HZ HN HD ⊢
  clear hI hJ hrn hrd hV
  go_enter Try.func30, Try.ntmps30
  go_upto_region 1 with fail
  obtain ⟨w_4, hw_4⟩ : ∃ q : World, q = (w.alloc (.cells #[.int .i64 0, .int .i64 0] 57)) := ⟨_, rfl⟩
  try rw [← hw_4]
  have HX0 := hide (show Box w_4 (w.heap.size) 57 #[.int .i64 0, .int .i64 0] by rw [hw_4]; exact Box.made rfl)
  have HB := hide (show Below w.heap.size w w_4 by rw [hw_4]; (repeat (first | (with_reducible exact Below.refl _ _) | (with_reducible refine Go.below_drewN ?_ _) | (with_reducible refine Below.drew ?_) | (with_reducible refine Below.alloc ?_ (by first | exact Nat.le_refl _ | (simp; done) | (simp; omega) | omega) _) | (with_reducible refine Below.setCell ?_ (by first | exact Nat.le_refl _ | (simp; done) | (simp; omega) | omega) _))))
  clear hw_4
  go_wp2_with fail
  refine (HTE.out _ (HI.out.below HB.out) (HJ.out.below HB.out)).mono ?_
  rintro e_ w_5 ⟨rfl, hb_5⟩
  replace HX0 := hide (HX0.out.below hb_5)
  replace HB := hide (HB.out.trans (hb_5.mono HB.out.size))
  clear hb_5
  by_cases hv : V = 0
  case neg =>
    have tv : (V != 0) = true := by simpa using hv
    rw [if_neg hv] at HN HD
    have HP := hide (HX0.out.put2 (.int .i64 0) (.int .i64 0))
    have HQ := hide ((HB.out.setCell (p := ⟨w.heap.size, 0, none⟩) (Nat.le_refl _) (.int .i64 0)).setCell (p := ⟨w.heap.size, 1, none⟩) (Nat.le_refl _) (.int .i64 0))
    obtain ⟨x0, x1, f0, f1, hlx⟩ := HX0.out.c2
    clear hv
    go_wp2_with fail
    clear x0 x1
    obtain ⟨y0, y1, -, -, hly⟩ := HP.out.c2
    refine bodyPost_ret (v := .tuple #[.agg #[.int .i64 0, .int .i64 0], .int .i64 V]) ?_ rfl ⟨by rw [HN.out, HD.out], HQ.out⟩
    simp [results, Try.results30, go_sem, y0, y1]
  have tv : (V != 0) = false := by simpa using hv
  rw [if_pos hv] at HN HD
  obtain ⟨rfl, hX, hY, hx, hy⟩ := HZ.out hv
  subst hv
  have HPO := hide (fun W (h : GausAt W 0 A m X) (k : GausAt W 0 B m Y) => partOf_any A B m c d X Y W hX hY hx hy h k)
  have HPB := hide (hX.parts hY hx)
  clear HZ HTE hX hY hx hy
  obtain ⟨N, hN⟩ : ∃ z, ptN X Y m = z := ⟨_, rfl⟩
  obtain ⟨D, hD⟩ : ∃ z, ptD X Y m = z := ⟨_, rfl⟩
  simp only [hN, hD] at HPO HPB HN HD
  clear hN hD
  go_wp2_with fail
  refine (HPO.out _ (HI.out.below HB.out) (HJ.out.below HB.out)).mono ?_
  rintro e_ w_6 ⟨rfl, hb_6⟩
  replace HX0 := hide (HX0.out.below hb_6)
  replace HB := hide (HB.out.trans (hb_6.mono HB.out.size))
  clear hb_6
  go_upto_region 5 with fail
  obtain ⟨g7, hg7⟩ : ∃ q, w_6.heap.size = q := ⟨_, rfl⟩
  obtain ⟨w_7, hw_7⟩ : ∃ q : World, q = w_6.alloc (.cells #[.int .i64 N, .int .i64 D] 57) := ⟨_, rfl⟩
  try rw [← hw_7]
  have HX7 := hide (show Box w_7 g7 57 #[.int .i64 N, .int .i64 D] by rw [hw_7]; exact Box.made hg7.symm)
  have hc_7 : Below w_6.heap.size w_6 w_7 := by rw [hw_7]; exact (Below.refl _ _).alloc (Nat.le_refl _) _
  clear hw_7
  replace HX0 := hide (HX0.out.below hc_7)
  replace HB := hide (HB.out.trans (hc_7.mono HB.out.size))
  clear hc_7
  try simp only [hg7]
  clear hg7
  have q1 : IntKind.i64.wrap (D - N) = D - N := IntWalk.i64_in _ (by have := HPB.out; omega)
  obtain ⟨z0, z1, -, -, hlz⟩ := HX7.out.c2
  have HP := hide (HX0.out.put2 (.int .i64 (D - N)) (.int .i64 D))
  have HQ := hide ((HB.out.setCell (p := ⟨w.heap.size, 0, none⟩) (Nat.le_refl _) (.int .i64 (D - N))).setCell (p := ⟨w.heap.size, 1, none⟩) (Nat.le_refl _) (.int .i64 D))
  obtain ⟨x0, x1, f0, f1, hlx⟩ := HX0.out.c2
  go_wp2_with fail
  clear x0 x1
  obtain ⟨y0, y1, -, -, hly⟩ := HP.out.c2
  refine bodyPost_ret (v := .tuple #[.agg #[.int .i64 (D - N), .int .i64 D], .int .i64 0]) ?_ rfl ⟨by rw [HN.out, HD.out], HQ.out⟩
  simp [results, Try.results30, go_sem, y0, y1]
end Go.Proofs.Ytdkbjgnkehoplaa
