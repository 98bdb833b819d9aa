/- Lemmas: Wa, Ra, S25. -/
import Derived.Laws.MakeOwn
import Derived.Laws.OwnMore
import Derived.OwnWalk
import Derived.Test.YtceohaeebdhmjaaBk01
set_option linter.unusedVariables false
set_option linter.unusedSimpArgs false
/- Numbers of chapter 4: turned, added, multiplied (without a walk); slices of them in memory. -/
namespace Go.Proofs.Ytceohaeebdhmjaa
open Go.RowKit
/-- A number: a + b w + c w^2 + d w^3. -/
structure Num where
  a : Int
  b : Int
  c : Int
  d : Int
theorem Num.same {x y : Num} (h1 : x.a = y.a) (h2 : x.b = y.b) (h3 : x.c = y.c) (h4 : x.d = y.d) : x = y := by
  cases x; cases y; simp_all
def Num.zero : Num := ⟨0, 0, 0, 0⟩
def Num.turn (x : Num) : Num := ⟨-x.d, x.a, x.b, x.c⟩
def Num.turns (x : Num) : Nat → Num
  | 0 => x
  | n + 1 => (x.turns n).turn
def Num.add (x y : Num) : Num := ⟨x.a + y.a, x.b + y.b, x.c + y.c, x.d + y.d⟩
def Num.times (n : Int) (x : Num) : Num := ⟨n * x.a, n * x.b, n * x.c, n * x.d⟩
def Num.conj (x : Num) : Num := ⟨x.a, -x.d, -x.c, -x.b⟩
/-- The part of a power of w. -/
def Num.part (x : Num) (i : Nat) : Int := if i = 0 then x.a else if i = 1 then x.b else if i = 2 then x.c else x.d
/-- The product, as far as the first i parts of the first number. -/
def Num.prodTo (x y : Num) : Nat → Num
  | 0 => Num.zero
  | i + 1 => (x.prodTo y i).add (Num.times (x.part i) (y.turns i))
def Num.prod (x y : Num) : Num := x.prodTo y 4
def Num.sqP (x : Num) : Int := x.a * x.a + x.b * x.b + x.c * x.c + x.d * x.d
def Num.sqQ (x : Num) : Int := x.a * x.b + x.b * x.c + x.c * x.d - x.a * x.d
/-- No part is greater in size than M. -/
structure Num.Within (M : Int) (x : Num) : Prop where
  a : -M ≤ x.a ∧ x.a ≤ M
  b : -M ≤ x.b ∧ x.b ≤ M
  c : -M ≤ x.c ∧ x.c ≤ M
  d : -M ≤ x.d ∧ x.d ≤ M
theorem Num.Within.turn {M : Int} {x : Num} (h : x.Within M) : x.turn.Within M := ⟨by have := h.d; show -M ≤ -x.d ∧ -x.d ≤ M; omega, h.a, h.b, h.c⟩
theorem Num.Within.turns {M : Int} {x : Num} (h : x.Within M) : ∀ n, (x.turns n).Within M
  | 0 => h
  | n + 1 => (h.turns n).turn
theorem Num.Within.more {M N : Int} {x : Num} (h : x.Within M) (hm : M ≤ N) : x.Within N :=
  ⟨by have := h.a; omega, by have := h.b; omega, by have := h.c; omega, by have := h.d; omega⟩
theorem Num.Within.add {M N : Int} {x y : Num} (h : x.Within M) (k : y.Within N) : (x.add y).Within (M + N) :=
  ⟨by have := h.a; have := k.a; show -(M + N) ≤ x.a + y.a ∧ x.a + y.a ≤ M + N; omega, by have := h.b; have := k.b; show -(M + N) ≤ x.b + y.b ∧ x.b + y.b ≤ M + N; omega, by have := h.c; have := k.c; show -(M + N) ≤ x.c + y.c ∧ x.c + y.c ≤ M + N; omega, by have := h.d; have := k.d; show -(M + N) ≤ x.d + y.d ∧ x.d + y.d ≤ M + N; omega⟩
theorem mul_within {M N a b : Int} (h : -M ≤ a ∧ a ≤ M) (k : -N ≤ b ∧ b ≤ N) : -(M * N) ≤ a * b ∧ a * b ≤ M * N := by
  have hM : 0 ≤ M := by omega
  have hN : 0 ≤ N := by omega
  have h1 : 0 ≤ (M - a) * (N + b) := Int.mul_nonneg (by omega) (by omega)
  have h2 : 0 ≤ (M + a) * (N - b) := Int.mul_nonneg (by omega) (by omega)
  have h3 : 0 ≤ (M - a) * (N - b) := Int.mul_nonneg (by omega) (by omega)
  have h4 : 0 ≤ (M + a) * (N + b) := Int.mul_nonneg (by omega) (by omega)
  simp only [Int.sub_mul, Int.mul_sub, Int.add_mul, Int.mul_add] at h1 h2 h3 h4
  omega
theorem Num.Within.times {M N n : Int} {x : Num} (h : x.Within M) (k : -N ≤ n ∧ n ≤ N) : (Num.times n x).Within (N * M) := ⟨mul_within k h.a, mul_within k h.b, mul_within k h.c, mul_within k h.d⟩
theorem Num.Within.part {M : Int} {x : Num} (h : x.Within M) (i : Nat) : -M ≤ x.part i ∧ x.part i ≤ M := by
  unfold Num.part
  split
  · exact h.a
  · split
    · exact h.b
    · split
      · exact h.c
      · exact h.d
theorem Num.Within.prodTo {M N : Int} {x y : Num} (h : x.Within M) (k : y.Within N) : ∀ i : Nat, (x.prodTo y i).Within (i * (M * N))
  | 0 => by
    have e : ((0 : Nat) : Int) * (M * N) = 0 := by simp
    rw [e]
    show Num.zero.Within 0
    exact ⟨⟨by decide, by decide⟩, ⟨by decide, by decide⟩, ⟨by decide, by decide⟩, ⟨by decide, by decide⟩⟩
  | i + 1 => by
    have e : ((i + 1 : Nat) : Int) * (M * N) = (i : Int) * (M * N) + M * N := by rw [Int.natCast_add, Int.add_mul]; simp
    rw [e]
    exact (Num.Within.prodTo h k i).add ((k.turns i).times (h.part i))
def Num.isIn (M : Int) (x : Num) : Bool := (withinB x.a (-M) M && withinB x.b (-M) M) && (withinB x.c (-M) M && withinB x.d (-M) M)
theorem withinB_iff {n lo hi : Int} : withinB n lo hi = true ↔ lo ≤ n ∧ n ≤ hi := by simp [withinB]
theorem Num.isIn_iff {M : Int} {x : Num} : x.isIn M = true ↔ x.Within M := by
  unfold Num.isIn
  simp only [Bool.and_eq_true, withinB_iff]
  exact ⟨fun ⟨⟨h1, h2⟩, h3, h4⟩ => ⟨h1, h2, h3, h4⟩, fun ⟨h1, h2, h3, h4⟩ => ⟨⟨h1, h2⟩, h3, h4⟩⟩
/-- The first error of n items, and its number. -/
def badE (g : Nat → Int) : Nat → Int
  | 0 => 0
  | n + 1 => if badE g n = 0 then g n else badE g n
def badI (g : Nat → Int) : Nat → Nat
  | 0 => 0
  | n + 1 => if badE g n = 0 then (if g n = 0 then 0 else n) else badI g n
theorem badE_succ {g : Nat → Int} {k : Nat} (h : badE g k = 0) : badE g (k + 1) = g k := by unfold badE; rw [if_pos h]
theorem badE_at {g : Nat → Int} {k : Nat} (h : badE g k = 0) (hk : g k ≠ 0) : ∀ n, k < n → badE g n = g k
  | 0, hn => absurd hn (Nat.not_lt_zero _)
  | n + 1, hn => by
    unfold badE
    rcases Nat.lt_or_ge k n with h1 | h1
    · have := badE_at h hk n h1
      rw [this, if_neg hk]
    · obtain rfl : k = n := by omega
      rw [if_pos h]
theorem badI_at {g : Nat → Int} {k : Nat} (h : badE g k = 0) (hk : g k ≠ 0) : ∀ n, k < n → badI g n = k
  | 0, hn => absurd hn (Nat.not_lt_zero _)
  | n + 1, hn => by
    unfold badI
    rcases Nat.lt_or_ge k n with h1 | h1
    · rw [badE_at h hk n h1, if_neg hk]
      exact badI_at h hk n h1
    · obtain rfl : k = n := by omega
      rw [if_pos h, if_neg hk]
theorem badI_zero {g : Nat → Int} : ∀ {n : Nat}, badE g n = 0 → badI g n = 0
  | 0, _ => rfl
  | n + 1, h => by
    unfold badE at h
    unfold badI
    by_cases h0 : badE g n = 0
    · rw [if_pos h0] at h ⊢
      rw [if_pos h]
    · rw [if_neg h0] at h; exact absurd h h0
/-- The error of n numbers F, of size M at most. -/
def sizeE (M : Int) (F : Nat → Int) (n : Nat) : Int := badE (fun j => unI (withinB (F j) (-M) M) 2) n
/-- The error of a number whose parts are to be of size M at most. -/
def Num.err (M : Int) (x : Num) : Int := unI (x.isIn M) 2
theorem size4 (M a b c d : Int) (F : Nat → Int) (h0 : F 0 = a) (h1 : F 1 = b) (h2 : F 2 = c) (h3 : F 3 = d) : sizeE M F 4 = Num.err M ⟨a, b, c, d⟩ := by
  unfold sizeE badE badE badE badE badE Num.err Num.isIn
  rw [h0, h1, h2, h3]
  cases withinB a (-M) M <;> cases withinB b (-M) M <;> cases withinB c (-M) M <;> cases withinB d (-M) M <;> simp [unI]
/-- A slice of n numbers. -/
def NumsAt (w : World) (lo : Nat) (A : Option Addr) (n : Nat) (F : Nat → Num) : Prop :=
  ∀ i, i < n → ∃ b o, A = some ⟨b, o, none⟩ ∧ lo ≤ b ∧ b < w.heap.size ∧ w.cell? ⟨b, o + i * 4, none⟩ = some (.int .i64 (F i).a) ∧ w.cell? ⟨b, o + i * 4 + 1, none⟩ = some (.int .i64 (F i).b) ∧ w.cell? ⟨b, o + i * 4 + 2, none⟩ = some (.int .i64 (F i).c) ∧ w.cell? ⟨b, o + i * 4 + 3, none⟩ = some (.int .i64 (F i).d)
section
variable {w w' : World} {lo n : Nat} {A : Option Addr} {F : Nat → Num}
theorem NumsAt.nil_ : NumsAt w lo A 0 F := fun i h => absurd h (Nat.not_lt_zero i)
theorem NumsAt.below (h : NumsAt w lo A n F) (hb : Below w.heap.size w w') : NumsAt w' lo A n F := fun i hi => by
  obtain ⟨b, o, e, h1, h2, h3, h4, h5, h6⟩ := h i hi
  exact ⟨b, o, e, h1, Nat.lt_of_lt_of_le h2 hb.size, (hb.cell (p := ⟨b, _, none⟩) h2).trans h3, (hb.cell (p := ⟨b, _, none⟩) h2).trans h4, (hb.cell (p := ⟨b, _, none⟩) h2).trans h5, (hb.cell (p := ⟨b, _, none⟩) h2).trans h6⟩
theorem NumsAt.alloc (h : NumsAt w lo A n F) (x : Obj) : NumsAt (w.alloc x) lo A n F := h.below ((Below.refl _ _).alloc (Nat.le_refl _) _)
theorem NumsAt.drewN (h : NumsAt w lo A n F) (m : Nat) : NumsAt (w.drewN m) lo A n F := h
theorem NumsAt.weak {lo' : Nat} (h : NumsAt w lo A n F) (hl : lo' ≤ lo) : NumsAt w lo' A n F := fun i hi => by
  obtain ⟨b, o, e, h1, h2⟩ := h i hi
  exact ⟨b, o, e, Nat.le_trans hl h1, h2⟩
theorem NumsAt.congr {G : Nat → Num} (h : NumsAt w lo A n F) (e : ∀ i, i < n → F i = G i) : NumsAt w lo A n G := fun i hi => by
  rw [← e i hi]; exact h i hi
theorem NumsAt.fewer {m : Nat} (h : NumsAt w lo A n F) (hm : m ≤ n) : NumsAt w lo A m F := fun i hi => h i (Nat.lt_of_lt_of_le hi hm)
end
end Go.Proofs.Ytceohaeebdhmjaa
/- Whole complex numbers of chapter 4 in memory: slices of structs of two cells, those of the call's own, an append to one. -/
namespace Go.Proofs.Ytceohaeebdhmjaa
open Go.RowKit
/-- A whole complex number. -/
structure Gau where
  re : Int
  im : Int
theorem Gau.same {x y : Gau} (h1 : x.re = y.re) (h2 : x.im = y.im) : x = y := by
  cases x; cases y; simp_all
def Gau.zero : Gau := ⟨0, 0⟩
def Gau.part (x : Gau) (i : Nat) : Int := if i = 0 then x.re else x.im
/-- No part is greater in size than M. -/
structure Gau.Within (M : Int) (x : Gau) : Prop where
  re : -M ≤ x.re ∧ x.re ≤ M
  im : -M ≤ x.im ∧ x.im ≤ M
def Gau.isIn (M : Int) (x : Gau) : Bool := withinB x.re (-M) M && withinB x.im (-M) M
theorem Gau.isIn_iff {M : Int} {x : Gau} : x.isIn M = true ↔ x.Within M := by
  unfold Gau.isIn
  simp only [Bool.and_eq_true, withinB_iff]
  exact ⟨fun ⟨h1, h2⟩ => ⟨h1, h2⟩, fun ⟨h1, h2⟩ => ⟨h1, h2⟩⟩
def Gau.err (x : Gau) (M : Int) : Int := unI (x.isIn M) 2
theorem Gau.err_zero {M : Int} {x : Gau} (h : x.err M = 0) : x.Within M := by
  unfold Gau.err unI at h
  by_cases hb : x.isIn M = true
  · exact Gau.isIn_iff.1 hb
  · rw [if_neg hb] at h; exact absurd h (by decide)
theorem Gau.Within.more {M N : Int} {x : Gau} (h : x.Within M) (hm : M ≤ N) : x.Within N := ⟨by have := h.re; omega, by have := h.im; omega⟩
def GausAt (w : World) (lo : Nat) (A : Option Addr) (n : Nat) (F : Nat → Gau) : Prop :=
  ∀ i, i < n → ∃ b o, A = some ⟨b, o, none⟩ ∧ lo ≤ b ∧ b < w.heap.size ∧ w.cell? ⟨b, o + i * 2, none⟩ = some (.int .i64 (F i).re) ∧ w.cell? ⟨b, o + i * 2 + 1, none⟩ = some (.int .i64 (F i).im)
section
variable {w w' : World} {lo n : Nat} {A : Option Addr} {F : Nat → Gau}
theorem GausAt.nil_ : GausAt w lo A 0 F := fun i h => absurd h (Nat.not_lt_zero i)
theorem GausAt.below (h : GausAt w lo A n F) (hb : Below w.heap.size w w') : GausAt w' lo A n F := fun i hi => by
  obtain ⟨b, o, e, h1, h2, h3, h4⟩ := h i hi
  exact ⟨b, o, e, h1, Nat.lt_of_lt_of_le h2 hb.size, (hb.cell (p := ⟨b, _, none⟩) h2).trans h3, (hb.cell (p := ⟨b, _, none⟩) h2).trans h4⟩
theorem GausAt.alloc (h : GausAt w lo A n F) (x : Obj) : GausAt (w.alloc x) lo A n F := h.below ((Below.refl _ _).alloc (Nat.le_refl _) _)
theorem GausAt.drewN (h : GausAt w lo A n F) (m : Nat) : GausAt (w.drewN m) lo A n F := h
theorem GausAt.weak {lo' : Nat} (h : GausAt w lo A n F) (hl : lo' ≤ lo) : GausAt w lo' A n F := fun i hi => by
  obtain ⟨b, o, e, h1, h2⟩ := h i hi
  exact ⟨b, o, e, Nat.le_trans hl h1, h2⟩
theorem GausAt.congr {G : Nat → Gau} (h : GausAt w lo A n F) (e : ∀ i, i < n → F i = G i) : GausAt w lo A n G := fun i hi => by
  rw [← e i hi]; exact h i hi
theorem GausAt.fewer {m : Nat} (h : GausAt w lo A n F) (hm : m ≤ n) : GausAt w lo A m F := fun i hi => h i (Nat.lt_of_lt_of_le hi hm)
theorem GausAt.one {b : Nat} {x : Gau} {t : TypeId} (h : Box w b t #[.int .i64 x.re, .int .i64 x.im]) : GausAt w 0 (some ⟨b, 0, none⟩) 1 (fun _ => x) := fun i hi => by
  obtain rfl : i = 0 := by omega
  exact ⟨b, 0, rfl, Nat.zero_le _, h.lt, h.at_ 0, h.at_ 1⟩
end
/-- The error of n numbers of size M at most. -/
def gausE (M : Int) (F : Nat → Gau) (n : Nat) : Int := badE (fun j => (F j).err M) n
theorem gausE_within {M : Int} {F : Nat → Gau} : ∀ {n : Nat}, gausE M F n = 0 → ∀ j, j < n → (F j).Within M
  | 0, _, j, hj => absurd hj (Nat.not_lt_zero _)
  | n + 1, h, j, hj => by
    unfold gausE badE at h
    by_cases h1 : badE (fun j => (F j).err M) n = 0
    · rw [if_pos h1] at h
      rcases Nat.lt_or_ge j n with h2 | h2
      · exact gausE_within h1 j h2
      · obtain rfl : j = n := by omega
        exact Gau.err_zero h
    · rw [if_neg h1] at h; exact absurd h h1
theorem gausE_cases (M : Int) (F : Nat → Gau) : ∀ n, gausE M F n = 0 ∨ gausE M F n = 2
  | 0 => .inl rfl
  | n + 1 => by
    rcases gausE_cases M F n with h | h
    · have h' : badE (fun j => (F j).err M) n = 0 := h
      unfold gausE badE
      rw [if_pos h']
      show (F n).err M = 0 ∨ (F n).err M = 2
      unfold Gau.err unI
      cases (F n).isIn M
      · exact .inr rfl
      · exact .inl rfl
    · have h' : badE (fun j => (F j).err M) n = 2 := h
      have h2 : ¬ badE (fun j => (F j).err M) n = 0 := by rw [h']; decide
      unfold gausE badE
      rw [if_neg h2]
      exact .inr h'
def gauVals (n : Nat) (F : Nat → Gau) : List Value := (List.range (n * 2)).map fun j => Value.int .i64 ((F (j / 2)).part (j % 2))
theorem gauVals_len (n : Nat) (F : Nat → Gau) : (gauVals n F).length = n * 2 := by simp [gauVals]
theorem gauVals_get (n : Nat) (F : Nat → Gau) (j : Nat) : (gauVals n F)[j]? = if j < n * 2 then some (.int .i64 ((F (j / 2)).part (j % 2))) else none := by
  unfold gauVals
  by_cases h : j < n * 2
  · rw [if_pos h]; simp [h]
  · rw [if_neg h, List.getElem?_eq_none (by simp; omega)]
theorem gauVals_congr {n : Nat} {F G : Nat → Gau} (h : ∀ j, j < n → F j = G j) : gauVals n F = gauVals n G := by
  unfold gauVals
  exact List.map_congr_left fun j hj => by
    have := List.mem_range.1 hj
    rw [h (j / 2) (by omega)]
def setGau (F : Nat → Gau) (k : Nat) (x : Gau) (j : Nat) : Gau := if j = k then x else F j
/-- A slice of the call's own, of n numbers F, in a block that is not ahead of base. -/
def OwnGaus (w : World) (base : Nat) (v : Value) (n : Nat) (F : Nat → Gau) : Prop := w.ownsRow base 43 2 v n (gauVals n F)
theorem OwnGaus.congr {w : World} {base n : Nat} {v : Value} {F G : Nat → Gau} (h : OwnGaus w base v n F) (e : ∀ j, j < n → F j = G j) : OwnGaus w base v n G := by
  unfold OwnGaus at h ⊢
  rwa [← gauVals_congr e]
theorem OwnGaus.drew {w : World} {base n : Nat} {v : Value} {F : Nat → Gau} (h : OwnGaus w base v n F) : OwnGaus w.drew base v n F := h
theorem OwnGaus.drewN {w : World} {base n : Nat} {v : Value} {F : Nat → Gau} (h : OwnGaus w base v n F) (q : Nat) : OwnGaus (w.drewN q) base v n F := h
theorem OwnGaus.alloc {w : World} {base n : Nat} {v : Value} {F : Nat → Gau} (h : OwnGaus w base v n F) (o : Obj) : OwnGaus (w.alloc o) base v n F := World.ownsRow.alloc h o
theorem OwnGaus.below {w w' : World} {base n : Nat} {v : Value} {F : Nat → Gau} (h : OwnGaus w base v n F) (hb : Below w.heap.size w w') : OwnGaus w' base v n F :=
  World.ownsRow.kept h (row := none) ⟨hb.os, hb.tape, hb.output, hb.size, fun k hk _ => hb.block k hk⟩ (by cases v.ownBlock <;> simp)
theorem OwnGaus.weak {w : World} {base base' n : Nat} {v : Value} {F : Nat → Gau} (h : OwnGaus w base v n F) (hb : base' ≤ base) : OwnGaus w base' v n F :=
  ⟨h.1, h.2.elim Or.inl (fun ⟨g, cap, cur, hv, hg, r⟩ => Or.inr ⟨g, cap, cur, hv, Nat.le_trans hb hg, r⟩)⟩
theorem OwnGaus.lt {w : World} {base n g c : Nat} {F : Nat → Gau} (h : OwnGaus w base (.slice (some ⟨g, 0, none⟩) n c) n F) : base ≤ g ∧ g < w.heap.size := World.ownsRow.lt h g rfl
theorem OwnGaus.part {w : World} {base n g c : Nat} {F : Nat → Gau} (h : OwnGaus w base (.slice (some ⟨g, 0, none⟩) n c) n F) {k i : Nat} (hk : k < n) (hi : i < 2) : w.cell? ⟨g, k * 2 + i, none⟩ = some (.int .i64 ((F k).part i)) := by
  rw [World.ownsRow.cellAt h (k * 2 + i) (by omega), gauVals_get, if_pos (by omega), show (k * 2 + i) / 2 = k by omega, show (k * 2 + i) % 2 = i by omega]
theorem OwnGaus.cells {w : World} {base n g c : Nat} {F : Nat → Gau} (h : OwnGaus w base (.slice (some ⟨g, 0, none⟩) n c) n F) {k : Nat} (hk : k < n) :
    w.cell? ⟨g, k * 2, none⟩ = some (.int .i64 (F k).re) ∧ w.cell? ⟨g, k * 2 + 1, none⟩ = some (.int .i64 (F k).im) :=
  ⟨h.part hk (show 0 < 2 by decide), h.part hk (show 1 < 2 by decide)⟩
theorem OwnGaus.frozen {w : World} {base n g c : Nat} {F : Nat → Gau} (h : OwnGaus w base (.slice (some ⟨g, 0, none⟩) n c) n F) (k : Nat) : w.frozen? ⟨g, k, none⟩ = false := World.ownsRow.frozenAt h k
theorem OwnGaus.frozen2 {w : World} {base n g c : Nat} {F : Nat → Gau} (h : OwnGaus w base (.slice (some ⟨g, 0, none⟩) n c) n F) (k : Nat) : w.frozen? ⟨g, k * 2, none⟩ = false ∧ w.frozen? ⟨g, k * 2 + 1, none⟩ = false := ⟨h.frozen _, h.frozen _⟩
theorem OwnGaus.gaus {w : World} {base n c : Nat} {A : Option Addr} {F : Nat → Gau} (h : OwnGaus w base (.slice A n c) n F) : GausAt w base A n F := fun i hi => by
  rcases h.2 with ⟨e, hx⟩ | ⟨g, cap, cur, e, hb, hg, hnc, hm, hsz, htake⟩
  · omega
  · injection e with e1 e2 e3
    subst e1
    have h' : OwnGaus w base (.slice (some ⟨g, 0, none⟩) n c) n F := h
    obtain ⟨k0, k1⟩ := h'.cells hi
    exact ⟨g, 0, rfl, hb, (Array.getElem?_eq_some_iff.1 hg).1, by rwa [Nat.zero_add], by rwa [Nat.zero_add]⟩
theorem OwnGaus.other {w : World} {base n : Nat} {v : Value} {F : Nat → Gau} (h : OwnGaus w base v n F) {k : Nat} (o : Nat) (u : Value) (hk : v.ownBlock ≠ some k) : OwnGaus (w.setCell ⟨k, o, none⟩ u) base v n F := by
  refine World.ownsRow.kept h (row := some k) ⟨rfl, rfl, rfl, by simp, fun j _ hj => heap_setCell_other w ⟨k, o, none⟩ j u (fun e => hj (by simp [e]))⟩ (.inr hk)
theorem OwnGaus.put {w : World} {base n g c : Nat} {F : Nat → Gau} (h : OwnGaus w base (.slice (some ⟨g, 0, none⟩) n c) n F) (k : Nat) (x : Gau) :
    OwnGaus ((w.setCell ⟨g, k * 2, none⟩ (.int .i64 x.re)).setCell ⟨g, k * 2 + 1, none⟩ (.int .i64 x.im)) base (.slice (some ⟨g, 0, none⟩) n c) n (setGau F k x) := by
  have h1 := (World.ownsRow.stored (World.ownsRow.stored h (k * 2) (.int .i64 x.re)).1 (k * 2 + 1) (.int .i64 x.im)).1
  have e : ((gauVals n F).set (k * 2) (.int .i64 x.re)).set (k * 2 + 1) (.int .i64 x.im) = gauVals n (setGau F k x) := by
    apply List.ext_getElem?
    intro j
    simp only [List.getElem?_set, List.length_set, gauVals_len, gauVals_get]
    by_cases hj : j < n * 2
    · have hd := Nat.div_add_mod j 2
      rw [if_pos hj]
      by_cases hk : j / 2 = k
      · have hs : setGau F k x (j / 2) = x := by unfold setGau; rw [if_pos hk]
        have hlt := Nat.mod_lt j (show 0 < 2 by decide)
        rw [hs, if_pos hj]
        obtain e | e : j % 2 = 0 ∨ j % 2 = 1 := by omega
        · rw [if_neg (by omega), if_pos (by omega), if_pos (by omega), e]; rfl
        · rw [if_pos (by omega), if_pos (by omega), e]; rfl
      · have hs : setGau F k x (j / 2) = F (j / 2) := by unfold setGau; rw [if_neg hk]
        rw [hs, if_neg (by omega), if_neg (by omega), if_pos hj]
    · rw [if_neg hj]
      simp only [if_neg hj]
      repeat' split
      all_goals first | rfl | omega
  rw [e] at h1
  exact h1
theorem Below.put2at {B c o : Nat} {w W : World} (h : Below B w W) (hc : B ≤ c) (u0 u1 : Value) : Below B w ((W.setCell ⟨c, o, none⟩ u0).setCell ⟨c, o + 1, none⟩ u1) := (h.setCell hc u0).setCell hc u1
theorem OwnGaus.made (w : World) (base g f : Nat) (hb : base ≤ w.heap.size) (hg : g = w.heap.size) (hf : f ≤ maxLen) : OwnGaus (w.alloc (.cells (madeCells #[.int .i64 0, .int .i64 0] (f * 2)) 43)) base (.slice (some ⟨g, 0, none⟩) f f) f (fun _ => Gau.zero) :=
  hg ▸ ⟨by rw [gauVals_len], .inr ⟨w.heap.size, f, _, rfl, hb, heap_alloc_new w _, Nat.le_refl _, hf, by simp [madeCells], by
    apply List.ext_getElem?
    intro j
    rw [gauVals_get]
    have hlt := Nat.mod_lt j (show 0 < 2 by decide)
    by_cases hj : j < f * 2
    · rw [if_pos hj]
      obtain e | e : j % 2 = 0 ∨ j % 2 = 1 := by omega
      all_goals (simp [madeCells, hj, e, Gau.part, Gau.zero])
    · rw [if_neg hj]; simp [madeCells]; omega⟩⟩
theorem gauInfo : (Try.prog.info? 43).map (fun i => (i.zero, i.size, i.bytes)) = some (some (.agg #[.int .i64 0, .int .i64 0]), 2, 16) := by kernel_rfl
theorem make_gaus (n : Nat) (hn : n ≤ 1000000000) (w : World) : (Instr.makeSlice 22 (.int .i64 (n : Int)) (.int .i64 (n : Int))).run Try.prog w = .ok (.slice (some ⟨w.heap.size, 0, none⟩) n n) (w.alloc (.cells (madeCells #[.int .i64 0, .int .i64 0] (n * 2)) 43)) := by
  obtain ⟨i0, hi, hz0, hz1, hz2⟩ := info_parts gauInfo
  have hr := run_make (P := Try.prog) w 22 43 i0 _ Try.underlying22 hi hz0 .i64 .i64 n n (by omega) (Int.le_refl _) (by rw [hz2]; omega) (by omega)
  simp only [Int.toNat_natCast, hz1] at hr
  exact hr
/-- F, and then G. -/
def catG (n : Nat) (F G : Nat → Gau) : Nat → Gau := fun j => if j < n then F j else G (j - n)
theorem gauVals_cat (n m : Nat) (F G : Nat → Gau) : gauVals n F ++ gauVals m G = gauVals (n + m) (catG n F G) := by
  apply List.ext_getElem?
  intro j
  rw [List.getElem?_append, gauVals_len, gauVals_get, gauVals_get, gauVals_get]
  unfold catG
  by_cases h1 : j < n * 2
  · rw [if_pos h1, if_pos h1, if_pos (by omega), if_pos (by omega)]
  · rw [if_neg h1]
    by_cases h2 : j - n * 2 < m * 2
    · rw [if_pos h2, if_pos (by omega), if_neg (by omega), show (j - n * 2) / 2 = j / 2 - n by omega, show (j - n * 2) % 2 = j % 2 by omega]
    · rw [if_neg h2, if_neg (by omega)]
theorem ownGaus_nil (w : World) (base : Nat) (F : Nat → Gau) : OwnGaus w base (.slice none 0 0) 0 F := World.ownsRow_nil _ _ _ _
theorem OwnGaus.empty (w : World) (g : Nat) (hg : g = w.heap.size) (F : Nat → Gau) : OwnGaus (w.alloc (.cells #[] 43)) w.heap.size (.slice (some ⟨g, 0, none⟩) 0 0) 0 F := by
  subst hg
  exact World.ownsRow_made w #[] 0 (Nat.le_refl _) (by decide) rfl
theorem ownGaus_form {w : World} {base n : Nat} {v : Value} {F : Nat → Gau} (h : OwnGaus w base v n F) : ∃ A c, v = .slice A n c ∧ n ≤ c ∧ GausAt w base A n F := by
  rcases h.2 with ⟨rfl, hx⟩ | ⟨g, cap, cur, rfl, hb, hg, hnc, hm, hsz, htake⟩
  · subst hx
    exact ⟨_, _, rfl, Nat.le_refl _, GausAt.nil_⟩
  · exact ⟨_, _, rfl, hnc, OwnGaus.gaus h⟩
theorem GausAt.part {w : World} {lo n : Nat} {A : Option Addr} {F : Nat → Gau} (h : GausAt w lo A n F) {j : Nat} (hj : j < n * 2) : ∃ b o, A = some ⟨b, o, none⟩ ∧ w.cell? ⟨b, o + j, none⟩ = some (.int .i64 ((F (j / 2)).part (j % 2))) := by
  obtain ⟨b, o, rfl, -, -, h0, h1⟩ := h (j / 2) (by omega)
  refine ⟨b, o, rfl, ?_⟩
  have hlt := Nat.mod_lt j (show 0 < 2 by decide)
  have hd := Nat.div_add_mod j 2
  obtain e | e : j % 2 = 0 ∨ j % 2 = 1 := by omega
  · rw [e, show o + j = o + j / 2 * 2 by omega]; exact h0
  · rw [e, show o + j = o + j / 2 * 2 + 1 by omega]; exact h1
set_option maxRecDepth 100000 in
theorem run_append_gaus (w : World) (ty : TypeId) (base lo : Nat) (v : Value) (n : Nat) (F : Nat → Gau) (hown : OwnGaus w base v n F)
    (A : Option Addr) (m c : Nat) (G : Nat → Gau) (hr : GausAt w lo A m G) (hnm : n + m ≤ 100000000) (hbase : base ≤ w.heap.size) :
    ∃ v' w', (Builtin.append_ #[22, 22] ty #[v, .slice A m c]).run Try.prog w = .ok v' w' ∧ OwnGaus w' base v' (n + m) (catG n F G) ∧ Below base w w' := by
  obtain ⟨i0, hi, hz0, hz1, hz2⟩ := info_parts gauInfo
  cases A with
  | none =>
    have hm : m = 0 := by
      rcases Nat.eq_zero_or_pos m with h0 | h0
      · exact h0
      · obtain ⟨b, o, e, -⟩ := hr 0 h0
        cases e
    subst hm
    have hrun : (Builtin.append_ #[22, 22] ty #[v, .slice none 0 c]).run Try.prog w = .ok v w := by
      rcases hown.2 with ⟨rfl, -⟩ | ⟨g, cap, cur, rfl, -, -, hnc, -⟩
      · simp [Builtin.append_, run_underlying Try.underlying22, sizeOf, typeInfo, hi, Builtin.lenOf, Builtin.firstCells]
      · simp [Builtin.append_, run_underlying Try.underlying22, sizeOf, typeInfo, hi, Builtin.lenOf, Builtin.firstCells, hnc, storeCells]
    exact ⟨v, w, hrun, OwnGaus.congr (F := F) hown fun j hj => by unfold catG; rw [if_pos (show j < n by omega)], Below.refl _ _⟩
  | some ad =>
    obtain ⟨v', w', hrun, hown', hg, -, -⟩ := run_append_own_at (P := Try.prog) w base 22 ty 43 i0 (.agg #[.int .i64 0, .int .i64 0]) 2 16 Try.underlying22 hi hz0 hz1 hz2 rfl (by decide) v n _ hown ad m c (gauVals m G) (by rw [gauVals_len])
      (fun j u hu => by
        rw [gauVals_get] at hu
        split at hu
        · rename_i hj
          obtain ⟨b, o, e, hc⟩ := hr.part hj
          injection e with e
          subst e
          injection hu with hu
          subst hu
          rw [Addr.add_lit]
          exact hc
        · cases hu)
      (fun u hu => by
        obtain ⟨j, -, rfl⟩ := List.mem_map.1 hu
        rfl) (by unfold maxLen; omega) (by omega) hbase
    rw [gauVals_cat] at hown'
    exact ⟨v', w', hrun, hown', (Below.refl _ _).grown hg hbase (fun k hk => (World.ownsRow.lt hown k hk).1)⟩
theorem wp_append_gaus {o : Oper} {a : Act} {K : Act → World → Prop} {Q : Exit → Act → World → Prop} (w : World) (s x : Operand)
    (ho : o.op = .call { callee := .builtin .append, args := #[s, x], argTypes := #[22, 22] })
    (base lo : Nat) (v : Value) (n : Nat) (F : Nat → Gau) (hs : a.eval s = v) (hown : OwnGaus w base v n F)
    (A : Option Addr) (m c : Nat) (G : Nat → Gau) (hx : a.eval x = .slice A m c) (hr : GausAt w lo A m G) (hnm : n + m ≤ 100000000) (hbase : base ≤ w.heap.size)
    (h : ∀ v' w', OwnGaus w' base v' (n + m) (catG n F G) → Below base w w' → K (a.put o.dst v') w') : o.wp Try.prog a w K Q := by
  obtain ⟨v', w', hrun, h1, h2⟩ := run_append_gaus w o.type base lo v n F hown A m c G hr hnm hbase
  unfold Oper.wp execOp
  simp only [ho, resolve, invoke, builtin, Sem.run_bind, Sem.run_pure, Result.andThen_ok, List.map_toArray, List.map_cons, List.map_nil, hs, hx, hrun]
  exact h v' w' h1 h2
theorem wpList_append_gaus {ops : Array Oper} {rest : List Oper} {o : Oper} {a : Act} {Q : Exit → Act → World → Prop} (w : World) (hgd : o.guard = none) (s x : Operand)
    (ho : o.op = .call { callee := .builtin .append, args := #[s, x], argTypes := #[22, 22] })
    (base lo : Nat) (v : Value) (n : Nat) (F : Nat → Gau) (hs : a.eval s = v) (hown : OwnGaus w base v n F)
    (A : Option Addr) (m c : Nat) (G : Nat → Gau) (hx : a.eval x = .slice A m c) (hr : GausAt w lo A m G) (hnm : n + m ≤ 100000000) (hbase : base ≤ w.heap.size)
    (h : ∀ v' w', OwnGaus w' base v' (n + m) (catG n F G) → Below base w w' → wpList Try.prog ops Q rest (a.put o.dst v') w') : wpList Try.prog ops Q (o :: rest) a w :=
  wpList_plain hgd fun _ hK => wp_append_gaus w s x ho base lo v n F hs hown A m c G hx hr hnm hbase fun v' w' h1 h2 => hK _ _ (h v' w' h1 h2)
theorem step_append_gaus {ops : Array Oper} {o : Oper} {a : Act} {K : Act → World → Prop} {Q : Exit → Act → World → Prop} {E : Prop} (w : World) (hgd : o.guard = none) (s x : Operand)
    (ho : o.op = .call { callee := .builtin .append, args := #[s, x], argTypes := #[22, 22] })
    (base lo : Nat) (v : Value) (n : Nat) (F : Nat → Gau) (hs : a.eval s = v) (hown : OwnGaus w base v n F)
    (A : Option Addr) (m c : Nat) (G : Nat → Gau) (hx : a.eval x = .slice A m c) (hr : GausAt w lo A m G) (hnm : n + m ≤ 100000000) (hbase : base ≤ w.heap.size)
    (h : ∀ v' w', OwnGaus w' base v' (n + m) (catG n F G) → Below base w w' → K (a.put o.dst v') w') :
    if Region.wanted o (yielded ops a.tmps) = true then Oper.wp Try.prog o a w K Q else E := by
  have hw : Region.wanted o (yielded ops a.tmps) = true := by simp [Region.wanted, hgd]
  rw [if_pos hw]
  exact wp_append_gaus w s x ho base lo v n F hs hown A m c G hx hr hnm hbase h
end Go.Proofs.Ytceohaeebdhmjaa
/- Lists of lists of complex numbers: read, made by appending. -/
namespace Go.Proofs.Ytceohaeebdhmjaa
open Go.RowKit Go.Shelf
/-- A slice of n slices; the slice i has L i numbers F i. -/
def MatsAt (w : World) (lo : Nat) (A : Option Addr) (n : Nat) (L : Nat → Nat) (F : Nat → Nat → Gau) : Prop :=
  ∀ i, i < n → ∃ b o Ai ci, A = some ⟨b, o, none⟩ ∧ lo ≤ b ∧ b < w.heap.size ∧ w.cell? ⟨b, o + i, none⟩ = some (.slice Ai (L i) ci) ∧ L i ≤ ci ∧ ci ≤ 9223372036854775807 ∧ GausAt w lo Ai (L i) (F i)
section
variable {w w' : World} {lo n : Nat} {A : Option Addr} {L : Nat → Nat} {F : Nat → Nat → Gau}
theorem MatsAt.nil_ : MatsAt w lo A 0 L F := fun i h => absurd h (Nat.not_lt_zero i)
theorem MatsAt.below (h : MatsAt w lo A n L F) (hb : Below w.heap.size w w') : MatsAt w' lo A n L F := fun i hi => by
  obtain ⟨b, o, Ai, ci, e, h1, h2, h3, h4, h5, h6⟩ := h i hi
  exact ⟨b, o, Ai, ci, e, h1, Nat.lt_of_lt_of_le h2 hb.size, (hb.cell (p := ⟨b, o + i, none⟩) h2).trans h3, h4, h5, h6.below hb⟩
theorem MatsAt.alloc (h : MatsAt w lo A n L F) (x : Obj) : MatsAt (w.alloc x) lo A n L F := h.below ((Below.refl _ _).alloc (Nat.le_refl _) _)
theorem MatsAt.drewN (h : MatsAt w lo A n L F) (m : Nat) : MatsAt (w.drewN m) lo A n L F := h
theorem MatsAt.weak {lo' : Nat} (h : MatsAt w lo A n L F) (hl : lo' ≤ lo) : MatsAt w lo' A n L F := fun i hi => by
  obtain ⟨b, o, Ai, ci, e, h1, h2, h3, h4, h5, h6⟩ := h i hi
  exact ⟨b, o, Ai, ci, e, Nat.le_trans hl h1, h2, h3, h4, h5, h6.weak hl⟩
theorem GausAt.block {b o k : Nat} {G : Nat → Gau} (h : GausAt w lo (some ⟨b, o, none⟩) n G) (hk : k < n) : lo ≤ b ∧ b < w.heap.size := by
  obtain ⟨b', o', e, h1, h2, -⟩ := h k hk
  injection e with e; injection e with e1 e2; subst e1
  exact ⟨h1, h2⟩
end
theorem OwnGaus.block {w : World} {base n c b o : Nat} {m : Option Nat} {F : Nat → Gau} (h : OwnGaus w base (.slice (some ⟨b, o, none⟩) n c) n F) : base ≤ b ∧ b < w.heap.size := by
  rcases h.2 with ⟨h1, -⟩ | ⟨g, cap, cur, h1, hb, hg, -⟩
  · simp at h1
  · injection h1 with e1; injection e1 with e1; injection e1 with e1; subst e1
    exact ⟨hb, (Array.getElem?_eq_some_iff.1 hg).1⟩
/-- A slice of slices of the call's own: its row, and rows of numbers in other blocks. -/
def OwnMats (w : World) (base : Nat) (v : Value) (n : Nat) (L : Nat → Nat) (F : Nat → Nat → Gau) : Prop :=
  ∃ xs : List Value, w.ownsRow base 22 1 v n xs ∧ ∀ i, i < n → ∃ Ai ci, xs[i]? = some (.slice Ai (L i) ci) ∧ L i ≤ ci ∧ ci ≤ 9223372036854775807 ∧ GausAt w base Ai (L i) (F i) ∧ ∀ b o, Ai = some ⟨b, o, none⟩ → v.ownBlock ≠ some b ∧ b < w.heap.size
section
variable {w w' : World} {base n : Nat} {v : Value} {L : Nat → Nat} {F : Nat → Nat → Gau}
theorem OwnMats.nil_ (w : World) (base : Nat) (L : Nat → Nat) (F : Nat → Nat → Gau) : OwnMats w base (.slice none 0 0) 0 L F := ⟨[], World.ownsRow_nil _ _ _ _, fun i h => absurd h (Nat.not_lt_zero i)⟩
theorem OwnMats.below (h : OwnMats w base v n L F) (hb : Below w.heap.size w w') : OwnMats w' base v n L F := by
  obtain ⟨xs, h1, h2⟩ := h
  refine ⟨xs, World.ownsRow.kept h1 (row := none) ⟨hb.os, hb.tape, hb.output, hb.size, fun k hk _ => hb.block k hk⟩ (by cases v.ownBlock <;> simp), fun i hi => ?_⟩
  obtain ⟨Ai, ci, e, h3, h4, h5, h6⟩ := h2 i hi
  exact ⟨Ai, ci, e, h3, h4, h5.below hb, fun b o e => ⟨(h6 b o e).1, Nat.lt_of_lt_of_le (h6 b o e).2 hb.size⟩⟩
theorem OwnMats.alloc (h : OwnMats w base v n L F) (o : Obj) : OwnMats (w.alloc o) base v n L F := h.below ((Below.refl _ _).alloc (Nat.le_refl _) _)
theorem OwnMats.drew (h : OwnMats w base v n L F) : OwnMats w.drew base v n L F := h
theorem OwnMats.drewN (h : OwnMats w base v n L F) (q : Nat) : OwnMats (w.drewN q) base v n L F := h
theorem OwnMats.congr {L' : Nat → Nat} {F' : Nat → Nat → Gau} (h : OwnMats w base v n L F) (e : ∀ i, i < n → L i = L' i ∧ ∀ k, k < L i → F i k = F' i k) : OwnMats w base v n L' F' := by
  obtain ⟨xs, h1, h2⟩ := h
  refine ⟨xs, h1, fun i hi => ?_⟩
  obtain ⟨Ai, ci, g, h3, h4, h5, h6⟩ := h2 i hi
  obtain ⟨e1, e2⟩ := e i hi
  exact ⟨Ai, ci, by rw [← e1]; exact g, by omega, h4, by rw [← e1]; exact h5.congr e2, h6⟩
theorem OwnMats.form (h : OwnMats w base v n L F) : ∃ A c, v = .slice A n c ∧ n ≤ c ∧ c ≤ 9223372036854775807 ∧ MatsAt w base A n L F := by
  obtain ⟨xs, h1, h2⟩ := h
  have hm9 : maxLen ≤ 9223372036854775807 := by decide
  rcases h1.2 with ⟨rfl, rfl⟩ | ⟨g, cap, cur, rfl, hb, hg, hnc, hm, -⟩
  · exact ⟨_, _, rfl, Nat.le_refl _, by decide, MatsAt.nil_⟩
  · refine ⟨_, _, rfl, hnc, by omega, fun i hi => ?_⟩
    obtain ⟨Ai, ci, e, h3, h4, h5, h6⟩ := h2 i hi
    have hc := World.ownsRow.cells h1 (g := g) rfl i _ e
    rw [Addr.add_lit] at hc
    exact ⟨g, 0, Ai, ci, rfl, hb, (Array.getElem?_eq_some_iff.1 hg).1, hc, h3, h4, h5⟩
theorem OwnMats.lt (h : OwnMats w base v n L F) {k : Nat} (hk : v.ownBlock = some k) : base ≤ k ∧ k < w.heap.size := by
  obtain ⟨xs, h1, -⟩ := h
  exact World.ownsRow.lt h1 k hk
end
theorem GausAt.grown {w w' : World} {lo n : Nat} {A : Option Addr} {G : Nat → Gau} {row : Option Nat} (h : GausAt w lo A n G) (hg : w.grownBy w' row) (ha : ∀ b o, A = some ⟨b, o, none⟩ → row ≠ some b) : GausAt w' lo A n G := fun k hk => by
  obtain ⟨b, o, e, h1, h2, h3, h4⟩ := h k hk
  exact ⟨b, o, e, h1, Nat.lt_of_lt_of_le h2 hg.size, (World.cell?_of_block (a := ⟨b, _, none⟩) (hg.block b h2 (fun x => ha b o e x.symm))).trans h3, (World.cell?_of_block (a := ⟨b, _, none⟩) (hg.block b h2 (fun x => ha b o e x.symm))).trans h4⟩
def snocL (n : Nat) (L : Nat → Nat) (m : Nat) (i : Nat) : Nat := if i < n then L i else m
def snocG (n : Nat) (F : Nat → Nat → Gau) (G : Nat → Gau) (i : Nat) : Nat → Gau := if i < n then F i else G
theorem matInfo : (Try.prog.info? 22).map (fun i => (i.zero, i.size, i.bytes)) = some (some (.slice none 0 0), 1, 24) := by kernel_rfl
set_option maxRecDepth 100000 in
theorem run_append_mat (w : World) (ty : TypeId) (base : Nat) (v : Value) (n : Nat) (L : Nat → Nat) (F : Nat → Nat → Gau) (hown : OwnMats w base v n L F)
    (g1 : Nat) (A : Option Addr) (m c : Nat) (G : Nat → Gau) (hc : w.cell? ⟨g1, 0, none⟩ = some (.slice A m c)) (hmc : m ≤ c) (hc9 : c ≤ 9223372036854775807) (hr : GausAt w base A m G) (ha : ∀ b o, A = some ⟨b, o, none⟩ → v.ownBlock ≠ some b ∧ b < w.heap.size) (hn : n ≤ 1000000) (hbase : base ≤ w.heap.size) :
    ∃ v' w', (Builtin.append_ #[23, 23] ty #[v, .slice (some ⟨g1, 0, none⟩) 1 1]).run Try.prog w = .ok v' w' ∧ OwnMats w' base v' (n + 1) (snocL n L m) (snocG n F G) ∧ Below base w w' ∧ w.grownBy w' v.ownBlock := by
  obtain ⟨i0, hi, hz0, hz1, hz2⟩ := info_parts matInfo
  obtain ⟨xs, h1, h2⟩ := hown
  have hlen : xs.length = n := by rw [h1.1, Nat.mul_one]
  obtain ⟨v', w', hrun, hown', hg, -, hblk⟩ := run_append_own_at (P := Try.prog) w base 23 ty 22 i0 (.slice none 0 0) 1 24 Try.underlying23 hi hz0 hz1 hz2 rfl (by decide) v n xs h1 ⟨g1, 0, none⟩ 1 1 [.slice A m c] rfl
    (fun j u hu => by
      match j, hu with
      | 0, hu =>
        simp at hu
        subst hu
        exact hc
      | j + 1, hu => simp at hu)
    (fun u hu => by
      simp at hu
      subst hu
      rfl) (by unfold maxLen; omega) (by omega) hbase
  have hb : Below base w w' := (Below.refl _ _).grown hg hbase (fun k hk => (World.ownsRow.lt h1 k hk).1)
  refine ⟨v', w', hrun, ⟨_, hown', fun i hi => ?_⟩, hb, hg⟩
  have apart : ∀ (B : Option Addr), (∀ b o, B = some ⟨b, o, none⟩ → v.ownBlock ≠ some b ∧ b < w.heap.size) → ∀ b o, B = some ⟨b, o, none⟩ → v'.ownBlock ≠ some b ∧ b < w'.heap.size := fun B hB b o e => by
    obtain ⟨x1, x2⟩ := hB b o e
    refine ⟨?_, Nat.lt_of_lt_of_le x2 hg.size⟩
    rcases hblk with y | y
    · rw [y]; exact x1
    · rw [y]; intro z; injection z with z; omega
  by_cases hin : i < n
  · obtain ⟨Ai, ci, e, h3, h4, h5, h6⟩ := h2 i hin
    unfold snocL snocG
    rw [if_pos hin, if_pos hin]
    exact ⟨Ai, ci, by rw [List.getElem?_append_left (by omega)]; exact e, h3, h4, h5.grown hg (fun b o e => (h6 b o e).1), apart Ai h6⟩
  · have hi' : i = n := by omega
    unfold snocL snocG
    rw [if_neg hin, if_neg hin]
    refine ⟨A, c, ?_, hmc, hc9, hr.grown hg (fun b o e => (ha b o e).1), apart A ha⟩
    rw [List.getElem?_append_right (by omega), hlen, hi', Nat.sub_self]
    rfl
theorem wp_append_mat {o : Oper} {a : Act} {K : Act → World → Prop} {Q : Exit → Act → World → Prop} (w : World) (s x : Operand)
    (ho : o.op = .call { callee := .builtin .append, args := #[s, x], argTypes := #[23, 23] })
    (base : Nat) (v : Value) (n : Nat) (L : Nat → Nat) (F : Nat → Nat → Gau) (hs : a.eval s = v) (hown : OwnMats w base v n L F)
    (g1 : Nat) (A : Option Addr) (m c : Nat) (G : Nat → Gau) (hx : a.eval x = .slice (some ⟨g1, 0, none⟩) 1 1) (hc : w.cell? ⟨g1, 0, none⟩ = some (.slice A m c)) (hmc : m ≤ c) (hc9 : c ≤ 9223372036854775807) (hr : GausAt w base A m G) (ha : ∀ b o, A = some ⟨b, o, none⟩ → v.ownBlock ≠ some b ∧ b < w.heap.size) (hn : n ≤ 1000000) (hbase : base ≤ w.heap.size)
    (h : ∀ v' w', OwnMats w' base v' (n + 1) (snocL n L m) (snocG n F G) → Below base w w' → K (a.put o.dst v') w') : o.wp Try.prog a w K Q := by
  obtain ⟨v', w', hrun, h1, h2, -⟩ := run_append_mat w o.type base v n L F hown g1 A m c G hc hmc hc9 hr ha hn hbase
  unfold Oper.wp execOp
  simp only [ho, resolve, invoke, builtin, Sem.run_bind, Sem.run_pure, Result.andThen_ok, List.map_toArray, List.map_cons, List.map_nil, hs, hx, hrun]
  exact h v' w' h1 h2
theorem wpList_append_mat {ops : Array Oper} {rest : List Oper} {o : Oper} {a : Act} {Q : Exit → Act → World → Prop} (w : World) (hgd : o.guard = none) (s x : Operand)
    (ho : o.op = .call { callee := .builtin .append, args := #[s, x], argTypes := #[23, 23] })
    (base : Nat) (v : Value) (n : Nat) (L : Nat → Nat) (F : Nat → Nat → Gau) (hs : a.eval s = v) (hown : OwnMats w base v n L F)
    (g1 : Nat) (A : Option Addr) (m c : Nat) (G : Nat → Gau) (hx : a.eval x = .slice (some ⟨g1, 0, none⟩) 1 1) (hc : w.cell? ⟨g1, 0, none⟩ = some (.slice A m c)) (hmc : m ≤ c) (hc9 : c ≤ 9223372036854775807) (hr : GausAt w base A m G) (ha : ∀ b o, A = some ⟨b, o, none⟩ → v.ownBlock ≠ some b ∧ b < w.heap.size) (hn : n ≤ 1000000) (hbase : base ≤ w.heap.size)
    (h : ∀ v' w', OwnMats w' base v' (n + 1) (snocL n L m) (snocG n F G) → Below base w w' → wpList Try.prog ops Q rest (a.put o.dst v') w') : wpList Try.prog ops Q (o :: rest) a w :=
  wpList_plain hgd fun _ hK => wp_append_mat w s x ho base v n L F hs hown g1 A m c G hx hc hmc hc9 hr ha hn hbase fun v' w' h1 h2 => hK _ _ (h v' w' h1 h2)
theorem step_append_mat {ops : Array Oper} {o : Oper} {a : Act} {K : Act → World → Prop} {Q : Exit → Act → World → Prop} {E : Prop} (w : World) (hgd : o.guard = none) (s x : Operand)
    (ho : o.op = .call { callee := .builtin .append, args := #[s, x], argTypes := #[23, 23] })
    (base : Nat) (v : Value) (n : Nat) (L : Nat → Nat) (F : Nat → Nat → Gau) (hs : a.eval s = v) (hown : OwnMats w base v n L F)
    (g1 : Nat) (A : Option Addr) (m c : Nat) (G : Nat → Gau) (hx : a.eval x = .slice (some ⟨g1, 0, none⟩) 1 1) (hc : w.cell? ⟨g1, 0, none⟩ = some (.slice A m c)) (hmc : m ≤ c) (hc9 : c ≤ 9223372036854775807) (hr : GausAt w base A m G) (ha : ∀ b o, A = some ⟨b, o, none⟩ → v.ownBlock ≠ some b ∧ b < w.heap.size) (hn : n ≤ 1000000) (hbase : base ≤ w.heap.size)
    (h : ∀ v' w', OwnMats w' base v' (n + 1) (snocL n L m) (snocG n F G) → Below base w w' → K (a.put o.dst v') w') :
    if Region.wanted o (yielded ops a.tmps) = true then Oper.wp Try.prog o a w K Q else E := by
  have hw : Region.wanted o (yielded ops a.tmps) = true := by simp [Region.wanted, hgd]
  rw [if_pos hw]
  exact wp_append_mat w s x ho base v n L F hs hown g1 A m c G hx hc hmc hc9 hr ha hn hbase h
theorem OwnGaus.cap_any {w : World} {base n c : Nat} {A : Option Addr} {F : Nat → Gau} (h : OwnGaus w base (.slice A n c) n F) : n ≤ c ∧ c ≤ 9223372036854775807 := by
  have hm9 : maxLen ≤ 9223372036854775807 := by decide
  rcases h.2 with ⟨h1, h2⟩ | ⟨g, cap, cur, h1, -, -, hn, hm, -⟩
  · injection h1 with _ _ h3
    subst h3
    have := h.1
    rw [h2] at this
    simp at this
    exact ⟨by omega, by decide⟩
  · injection h1 with _ _ h3
    subst h3
    exact ⟨hn, by omega⟩
theorem OwnGaus.nil_ (w : World) (base : Nat) (F : Nat → Gau) : OwnGaus w base (.slice none 0 0) 0 F := ownGaus_nil w base F
theorem OwnMats.weak {w : World} {base base' n : Nat} {v : Value} {L : Nat → Nat} {F : Nat → Nat → Gau} (h : OwnMats w base v n L F) (hb : base' ≤ base) : OwnMats w base' v n L F := by
  obtain ⟨xs, h1, h2⟩ := h
  exact ⟨xs, ⟨h1.1, h1.2.elim Or.inl (fun ⟨g, cap, cur, hv, hg, r⟩ => Or.inr ⟨g, cap, cur, hv, Nat.le_trans hb hg, r⟩)⟩, fun i hi => by obtain ⟨Ai, ci, e, h3, h4, h5, h6⟩ := h2 i hi; exact ⟨Ai, ci, e, h3, h4, h5.weak hb, h6⟩⟩
set_option maxHeartbeats 1000000 in
theorem copyGaus_own (A : Option Addr) (n c : Nat) (F : Nat → Gau) (w : World) (hn : n ≤ 10000000) (hI : GausAt w 0 A n F) :
    Calls Try.prog 18 #[.slice A n c] w fun e w' => ∃ v, e = .returned v ∧ OwnGaus w' w.heap.size v n F ∧ Below w.heap.size w w' := by
  have HI := hide (hI.alloc (.cells #[] 43))
  have HE := hide (OwnGaus.empty w _ rfl F)
  clear hI
  go_enter Try.func18, Try.ntmps18
  go_wp2_with (at_builtin; refine wpList_append_gaus _ rfl (.tmp 3) (.tmp 4) rfl w.heap.size 0 (.slice (some ⟨w.heap.size, 0, none⟩) 0 0) 0 F rfl HE.out A n c F rfl HI.out (by omega) (by simp) ?_; intro v' w' h1 hb1)
  go_ret
  have hB : Below w.heap.size w w' := ((Below.refl _ _).alloc (Nat.le_refl _) _).trans hb1
  rw [Nat.zero_add] at h1
  exact ⟨_, rfl, h1.congr fun j _ => by simp [catG], hB⟩
set_option maxHeartbeats 2000000 in
theorem copyAll_any (A : Option Addr) (n c : Nat) (L : Nat → Nat) (F : Nat → Nat → Gau) (w : World) (hn : n ≤ 100000) (hL : ∀ i, i < n → L i ≤ 100000) (hI : MatsAt w 0 A n L F) :
    Calls Try.prog 13 #[.slice A n c] w fun e w' => ∃ v, e = .returned v ∧ OwnMats w' w.heap.size v n L F ∧ Below w.heap.size w w' := by
  have HI := hide hI
  have HL := hide hL
  clear hI hL
  go_enter Try.func13, Try.ntmps13
  go_wp2_with fail
  go_loopw [3, 4] (fun x i wr => ∃ k : Nat, k ≤ n ∧ i = .int .i64 k ∧ OwnMats wr w.heap.size x k L F ∧ Below w.heap.size w wr) (fun _ i _ => n - (Go.RowKit.intOf i).toNat)
  case atStart => exact ⟨0, Nat.zero_le _, rfl, OwnMats.nil_ _ _ _ _, Below.refl _ _⟩
  case round =>
    obtain ⟨k, hk, rfl, hown, hB⟩ := hrel
    have hBs := hB.size
    by_cases hlt : k < n
    · have hltz : (k : Int) < (n : Int) := by omega
      obtain ⟨b, o, Ai, ci, rfl, -, hb, hcell, hlc, hc9, hIk⟩ := (HI.out.below hB) k hlt
      obtain ⟨As, cs, rfl, hcs, hcs9, hIs⟩ := hown.form
      go_wp2_with fail
      refine (copyGaus_own Ai (L k) ci (F k) _ (by have := HL.out k hlt; omega) hIk).mono ?_
      rintro e w2 ⟨v2, rfl, hown2, hb2⟩
      obtain ⟨A2, c2, rfl, hc2, hI2⟩ := ownGaus_form hown2
      have hcap := hown2.cap_any
      have hb2s := hb2.size
      go_wp2_with (at_builtin; refine wpList_append_mat _ rfl (.tmp 11) (.tmp 17) rfl w.heap.size (.slice As k cs) k L F rfl ((hown.below hb2).alloc _) w2.heap.size A2 (L k) c2 (F k) rfl ((Box.made rfl : Box _ w2.heap.size 22 #[.slice A2 (L k) c2]).at_ 0) hc2 hcap.2 ((hI2.weak hBs).alloc _) (fun b' o' e => (by subst e; exact ⟨fun z => (by have h1 := (hown2.block (m := none)).1; have h2 := (hown.lt z).2; omega), (by have := (hown2.block (m := none)).2; simp; omega)⟩)) (by omega) (by simp; omega) ?_; intro v' w' h1 hb3)
      refine ⟨⟨k + 1, by omega, by simp, h1.congr (fun i hi => ?_), ((hB.trans (hb2.mono hBs)).alloc (by omega) _).trans hb3⟩, by simp [Go.RowKit.intOf]; omega⟩
      unfold snocL snocG
      by_cases e : i < k
      · rw [if_pos e, if_pos e]; exact ⟨rfl, fun _ _ => rfl⟩
      · obtain rfl : i = k := by omega
        rw [if_neg e, if_neg e]; exact ⟨rfl, fun _ _ => rfl⟩
    · obtain rfl : k = n := by omega
      go_wp2_with fail
      go_ret
      exact ⟨_, rfl, hown, hB⟩
end Go.Proofs.Ytceohaeebdhmjaa
