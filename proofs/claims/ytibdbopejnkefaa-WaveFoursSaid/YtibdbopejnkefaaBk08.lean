/- Lemmas: Ra, Rb, Rc, Rd, Re, Bs. -/
import Derived.Laws.MakeOwn
import Derived.Laws.OwnMore
import Derived.OwnWalk
import Derived.Shelf.Abstract
import Derived.Lib.MinMax
import Derived.BigQuiet
import Derived.Test.YtibdbopejnkefaaBk01
import Derived.Test.YtibdbopejnkefaaBk02
import Derived.Test.YtibdbopejnkefaaBk03
import Derived.Test.YtibdbopejnkefaaBk04
set_option linter.unusedVariables false
set_option linter.unusedSimpArgs false
/- Whole complex numbers of chapter 4 in memory: slices of structs of two cells, those of the call's own, an append to one. -/
namespace Go.Proofs.Ytibdbopejnkefaa
open Go.RowKit
/-- A whole complex number. -/
structure Gau where
  re : Int
  im : Int
theorem Gau.same {x y : Gau} (h1 : x.re = y.re) (h2 : x.im = y.im) : x = y := by
  cases x; cases y; simp_all
def Gau.zero : Gau := ⟨0, 0⟩
def Gau.part (x : Gau) (i : Nat) : Int := if i = 0 then x.re else x.im
/-- No part is greater in size than M. -/
structure Gau.Within (M : Int) (x : Gau) : Prop where
  re : -M ≤ x.re ∧ x.re ≤ M
  im : -M ≤ x.im ∧ x.im ≤ M
def Gau.isIn (M : Int) (x : Gau) : Bool := withinB x.re (-M) M && withinB x.im (-M) M
theorem Gau.isIn_iff {M : Int} {x : Gau} : x.isIn M = true ↔ x.Within M := by
  unfold Gau.isIn
  simp only [Bool.and_eq_true, withinB_iff]
  exact ⟨fun ⟨h1, h2⟩ => ⟨h1, h2⟩, fun ⟨h1, h2⟩ => ⟨h1, h2⟩⟩
def Gau.err (x : Gau) (M : Int) : Int := unI (x.isIn M) 2
theorem Gau.err_zero {M : Int} {x : Gau} (h : x.err M = 0) : x.Within M := by
  unfold Gau.err unI at h
  by_cases hb : x.isIn M = true
  · exact Gau.isIn_iff.1 hb
  · rw [if_neg hb] at h; exact absurd h (by decide)
theorem Gau.Within.more {M N : Int} {x : Gau} (h : x.Within M) (hm : M ≤ N) : x.Within N := ⟨by have := h.re; omega, by have := h.im; omega⟩
def GausAt (w : World) (lo : Nat) (A : Option Addr) (n : Nat) (F : Nat → Gau) : Prop :=
  ∀ i, i < n → ∃ b o, A = some ⟨b, o, none⟩ ∧ lo ≤ b ∧ b < w.heap.size ∧ w.cell? ⟨b, o + i * 2, none⟩ = some (.int .i64 (F i).re) ∧ w.cell? ⟨b, o + i * 2 + 1, none⟩ = some (.int .i64 (F i).im)
section
variable {w w' : World} {lo n : Nat} {A : Option Addr} {F : Nat → Gau}
theorem GausAt.nil_ : GausAt w lo A 0 F := fun i h => absurd h (Nat.not_lt_zero i)
theorem GausAt.below (h : GausAt w lo A n F) (hb : Below w.heap.size w w') : GausAt w' lo A n F := fun i hi => by
  obtain ⟨b, o, e, h1, h2, h3, h4⟩ := h i hi
  exact ⟨b, o, e, h1, Nat.lt_of_lt_of_le h2 hb.size, (hb.cell (p := ⟨b, _, none⟩) h2).trans h3, (hb.cell (p := ⟨b, _, none⟩) h2).trans h4⟩
theorem GausAt.alloc (h : GausAt w lo A n F) (x : Obj) : GausAt (w.alloc x) lo A n F := h.below ((Below.refl _ _).alloc (Nat.le_refl _) _)
theorem GausAt.drewN (h : GausAt w lo A n F) (m : Nat) : GausAt (w.drewN m) lo A n F := h
theorem GausAt.weak {lo' : Nat} (h : GausAt w lo A n F) (hl : lo' ≤ lo) : GausAt w lo' A n F := fun i hi => by
  obtain ⟨b, o, e, h1, h2⟩ := h i hi
  exact ⟨b, o, e, Nat.le_trans hl h1, h2⟩
theorem GausAt.congr {G : Nat → Gau} (h : GausAt w lo A n F) (e : ∀ i, i < n → F i = G i) : GausAt w lo A n G := fun i hi => by
  rw [← e i hi]; exact h i hi
theorem GausAt.fewer {m : Nat} (h : GausAt w lo A n F) (hm : m ≤ n) : GausAt w lo A m F := fun i hi => h i (Nat.lt_of_lt_of_le hi hm)
theorem GausAt.one {b : Nat} {x : Gau} {t : TypeId} (h : Box w b t #[.int .i64 x.re, .int .i64 x.im]) : GausAt w 0 (some ⟨b, 0, none⟩) 1 (fun _ => x) := fun i hi => by
  obtain rfl : i = 0 := by omega
  exact ⟨b, 0, rfl, Nat.zero_le _, h.lt, h.at_ 0, h.at_ 1⟩
end
/-- The error of n numbers of size M at most. -/
def gausE (M : Int) (F : Nat → Gau) (n : Nat) : Int := badE (fun j => (F j).err M) n
theorem gausE_within {M : Int} {F : Nat → Gau} : ∀ {n : Nat}, gausE M F n = 0 → ∀ j, j < n → (F j).Within M
  | 0, _, j, hj => absurd hj (Nat.not_lt_zero _)
  | n + 1, h, j, hj => by
    unfold gausE badE at h
    by_cases h1 : badE (fun j => (F j).err M) n = 0
    · rw [if_pos h1] at h
      rcases Nat.lt_or_ge j n with h2 | h2
      · exact gausE_within h1 j h2
      · obtain rfl : j = n := by omega
        exact Gau.err_zero h
    · rw [if_neg h1] at h; exact absurd h h1
theorem gausE_cases (M : Int) (F : Nat → Gau) : ∀ n, gausE M F n = 0 ∨ gausE M F n = 2
  | 0 => .inl rfl
  | n + 1 => by
    rcases gausE_cases M F n with h | h
    · have h' : badE (fun j => (F j).err M) n = 0 := h
      unfold gausE badE
      rw [if_pos h']
      show (F n).err M = 0 ∨ (F n).err M = 2
      unfold Gau.err unI
      cases (F n).isIn M
      · exact .inr rfl
      · exact .inl rfl
    · have h' : badE (fun j => (F j).err M) n = 2 := h
      have h2 : ¬ badE (fun j => (F j).err M) n = 0 := by rw [h']; decide
      unfold gausE badE
      rw [if_neg h2]
      exact .inr h'
def gauVals (n : Nat) (F : Nat → Gau) : List Value := (List.range (n * 2)).map fun j => Value.int .i64 ((F (j / 2)).part (j % 2))
theorem gauVals_len (n : Nat) (F : Nat → Gau) : (gauVals n F).length = n * 2 := by simp [gauVals]
theorem gauVals_get (n : Nat) (F : Nat → Gau) (j : Nat) : (gauVals n F)[j]? = if j < n * 2 then some (.int .i64 ((F (j / 2)).part (j % 2))) else none := by
  unfold gauVals
  by_cases h : j < n * 2
  · rw [if_pos h]; simp [h]
  · rw [if_neg h, List.getElem?_eq_none (by simp; omega)]
theorem gauVals_congr {n : Nat} {F G : Nat → Gau} (h : ∀ j, j < n → F j = G j) : gauVals n F = gauVals n G := by
  unfold gauVals
  exact List.map_congr_left fun j hj => by
    have := List.mem_range.1 hj
    rw [h (j / 2) (by omega)]
def setGau (F : Nat → Gau) (k : Nat) (x : Gau) (j : Nat) : Gau := if j = k then x else F j
/-- A slice of the call's own, of n numbers F, in a block that is not ahead of base. -/
def OwnGaus (w : World) (base : Nat) (v : Value) (n : Nat) (F : Nat → Gau) : Prop := w.ownsRow base 23 2 v n (gauVals n F)
theorem OwnGaus.congr {w : World} {base n : Nat} {v : Value} {F G : Nat → Gau} (h : OwnGaus w base v n F) (e : ∀ j, j < n → F j = G j) : OwnGaus w base v n G := by
  unfold OwnGaus at h ⊢
  rwa [← gauVals_congr e]
theorem OwnGaus.drew {w : World} {base n : Nat} {v : Value} {F : Nat → Gau} (h : OwnGaus w base v n F) : OwnGaus w.drew base v n F := h
theorem OwnGaus.drewN {w : World} {base n : Nat} {v : Value} {F : Nat → Gau} (h : OwnGaus w base v n F) (q : Nat) : OwnGaus (w.drewN q) base v n F := h
theorem OwnGaus.alloc {w : World} {base n : Nat} {v : Value} {F : Nat → Gau} (h : OwnGaus w base v n F) (o : Obj) : OwnGaus (w.alloc o) base v n F := World.ownsRow.alloc h o
theorem OwnGaus.below {w w' : World} {base n : Nat} {v : Value} {F : Nat → Gau} (h : OwnGaus w base v n F) (hb : Below w.heap.size w w') : OwnGaus w' base v n F :=
  World.ownsRow.kept h (row := none) ⟨hb.os, hb.tape, hb.output, hb.size, fun k hk _ => hb.block k hk⟩ (by cases v.ownBlock <;> simp)
theorem OwnGaus.weak {w : World} {base base' n : Nat} {v : Value} {F : Nat → Gau} (h : OwnGaus w base v n F) (hb : base' ≤ base) : OwnGaus w base' v n F :=
  ⟨h.1, h.2.elim Or.inl (fun ⟨g, cap, cur, hv, hg, r⟩ => Or.inr ⟨g, cap, cur, hv, Nat.le_trans hb hg, r⟩)⟩
theorem OwnGaus.lt {w : World} {base n g c : Nat} {F : Nat → Gau} (h : OwnGaus w base (.slice (some ⟨g, 0, none⟩) n c) n F) : base ≤ g ∧ g < w.heap.size := World.ownsRow.lt h g rfl
theorem OwnGaus.part {w : World} {base n g c : Nat} {F : Nat → Gau} (h : OwnGaus w base (.slice (some ⟨g, 0, none⟩) n c) n F) {k i : Nat} (hk : k < n) (hi : i < 2) : w.cell? ⟨g, k * 2 + i, none⟩ = some (.int .i64 ((F k).part i)) := by
  rw [World.ownsRow.cellAt h (k * 2 + i) (by omega), gauVals_get, if_pos (by omega), show (k * 2 + i) / 2 = k by omega, show (k * 2 + i) % 2 = i by omega]
theorem OwnGaus.cells {w : World} {base n g c : Nat} {F : Nat → Gau} (h : OwnGaus w base (.slice (some ⟨g, 0, none⟩) n c) n F) {k : Nat} (hk : k < n) :
    w.cell? ⟨g, k * 2, none⟩ = some (.int .i64 (F k).re) ∧ w.cell? ⟨g, k * 2 + 1, none⟩ = some (.int .i64 (F k).im) :=
  ⟨h.part hk (show 0 < 2 by decide), h.part hk (show 1 < 2 by decide)⟩
theorem OwnGaus.frozen {w : World} {base n g c : Nat} {F : Nat → Gau} (h : OwnGaus w base (.slice (some ⟨g, 0, none⟩) n c) n F) (k : Nat) : w.frozen? ⟨g, k, none⟩ = false := World.ownsRow.frozenAt h k
theorem OwnGaus.frozen2 {w : World} {base n g c : Nat} {F : Nat → Gau} (h : OwnGaus w base (.slice (some ⟨g, 0, none⟩) n c) n F) (k : Nat) : w.frozen? ⟨g, k * 2, none⟩ = false ∧ w.frozen? ⟨g, k * 2 + 1, none⟩ = false := ⟨h.frozen _, h.frozen _⟩
theorem OwnGaus.gaus {w : World} {base n c : Nat} {A : Option Addr} {F : Nat → Gau} (h : OwnGaus w base (.slice A n c) n F) : GausAt w base A n F := fun i hi => by
  rcases h.2 with ⟨e, hx⟩ | ⟨g, cap, cur, e, hb, hg, hnc, hm, hsz, htake⟩
  · omega
  · injection e with e1 e2 e3
    subst e1
    have h' : OwnGaus w base (.slice (some ⟨g, 0, none⟩) n c) n F := h
    obtain ⟨k0, k1⟩ := h'.cells hi
    exact ⟨g, 0, rfl, hb, (Array.getElem?_eq_some_iff.1 hg).1, by rwa [Nat.zero_add], by rwa [Nat.zero_add]⟩
theorem OwnGaus.other {w : World} {base n : Nat} {v : Value} {F : Nat → Gau} (h : OwnGaus w base v n F) {k : Nat} (o : Nat) (u : Value) (hk : v.ownBlock ≠ some k) : OwnGaus (w.setCell ⟨k, o, none⟩ u) base v n F := by
  refine World.ownsRow.kept h (row := some k) ⟨rfl, rfl, rfl, by simp, fun j _ hj => heap_setCell_other w ⟨k, o, none⟩ j u (fun e => hj (by simp [e]))⟩ (.inr hk)
theorem OwnGaus.put {w : World} {base n g c : Nat} {F : Nat → Gau} (h : OwnGaus w base (.slice (some ⟨g, 0, none⟩) n c) n F) (k : Nat) (x : Gau) :
    OwnGaus ((w.setCell ⟨g, k * 2, none⟩ (.int .i64 x.re)).setCell ⟨g, k * 2 + 1, none⟩ (.int .i64 x.im)) base (.slice (some ⟨g, 0, none⟩) n c) n (setGau F k x) := by
  have h1 := (World.ownsRow.stored (World.ownsRow.stored h (k * 2) (.int .i64 x.re)).1 (k * 2 + 1) (.int .i64 x.im)).1
  have e : ((gauVals n F).set (k * 2) (.int .i64 x.re)).set (k * 2 + 1) (.int .i64 x.im) = gauVals n (setGau F k x) := by
    apply List.ext_getElem?
    intro j
    simp only [List.getElem?_set, List.length_set, gauVals_len, gauVals_get]
    by_cases hj : j < n * 2
    · have hd := Nat.div_add_mod j 2
      rw [if_pos hj]
      by_cases hk : j / 2 = k
      · have hs : setGau F k x (j / 2) = x := by unfold setGau; rw [if_pos hk]
        have hlt := Nat.mod_lt j (show 0 < 2 by decide)
        rw [hs, if_pos hj]
        obtain e | e : j % 2 = 0 ∨ j % 2 = 1 := by omega
        · rw [if_neg (by omega), if_pos (by omega), if_pos (by omega), e]; rfl
        · rw [if_pos (by omega), if_pos (by omega), e]; rfl
      · have hs : setGau F k x (j / 2) = F (j / 2) := by unfold setGau; rw [if_neg hk]
        rw [hs, if_neg (by omega), if_neg (by omega), if_pos hj]
    · rw [if_neg hj]
      simp only [if_neg hj]
      repeat' split
      all_goals first | rfl | omega
  rw [e] at h1
  exact h1
theorem Below.put2at {B c o : Nat} {w W : World} (h : Below B w W) (hc : B ≤ c) (u0 u1 : Value) : Below B w ((W.setCell ⟨c, o, none⟩ u0).setCell ⟨c, o + 1, none⟩ u1) := (h.setCell hc u0).setCell hc u1
theorem OwnGaus.made (w : World) (base g f : Nat) (hb : base ≤ w.heap.size) (hg : g = w.heap.size) (hf : f ≤ maxLen) : OwnGaus (w.alloc (.cells (madeCells #[.int .i64 0, .int .i64 0] (f * 2)) 23)) base (.slice (some ⟨g, 0, none⟩) f f) f (fun _ => Gau.zero) :=
  hg ▸ ⟨by rw [gauVals_len], .inr ⟨w.heap.size, f, _, rfl, hb, heap_alloc_new w _, Nat.le_refl _, hf, by simp [madeCells], by
    apply List.ext_getElem?
    intro j
    rw [gauVals_get]
    have hlt := Nat.mod_lt j (show 0 < 2 by decide)
    by_cases hj : j < f * 2
    · rw [if_pos hj]
      obtain e | e : j % 2 = 0 ∨ j % 2 = 1 := by omega
      all_goals (simp [madeCells, hj, e, Gau.part, Gau.zero])
    · rw [if_neg hj]; simp [madeCells]; omega⟩⟩
theorem gauInfo : (Try.prog.info? 23).map (fun i => (i.zero, i.size, i.bytes)) = some (some (.agg #[.int .i64 0, .int .i64 0]), 2, 16) := by kernel_rfl
theorem make_gaus (n : Nat) (hn : n ≤ 1000000000) (w : World) : (Instr.makeSlice 75 (.int .i64 (n : Int)) (.int .i64 (n : Int))).run Try.prog w = .ok (.slice (some ⟨w.heap.size, 0, none⟩) n n) (w.alloc (.cells (madeCells #[.int .i64 0, .int .i64 0] (n * 2)) 23)) := by
  obtain ⟨i0, hi, hz0, hz1, hz2⟩ := info_parts gauInfo
  have hr := run_make (P := Try.prog) w 75 23 i0 _ Try.underlying75 hi hz0 .i64 .i64 n n (by omega) (Int.le_refl _) (by rw [hz2]; omega) (by omega)
  simp only [Int.toNat_natCast, hz1] at hr
  exact hr
/-- F, and then G. -/
def catG (n : Nat) (F G : Nat → Gau) : Nat → Gau := fun j => if j < n then F j else G (j - n)
theorem gauVals_cat (n m : Nat) (F G : Nat → Gau) : gauVals n F ++ gauVals m G = gauVals (n + m) (catG n F G) := by
  apply List.ext_getElem?
  intro j
  rw [List.getElem?_append, gauVals_len, gauVals_get, gauVals_get, gauVals_get]
  unfold catG
  by_cases h1 : j < n * 2
  · rw [if_pos h1, if_pos h1, if_pos (by omega), if_pos (by omega)]
  · rw [if_neg h1]
    by_cases h2 : j - n * 2 < m * 2
    · rw [if_pos h2, if_pos (by omega), if_neg (by omega), show (j - n * 2) / 2 = j / 2 - n by omega, show (j - n * 2) % 2 = j % 2 by omega]
    · rw [if_neg h2, if_neg (by omega)]
theorem ownGaus_nil (w : World) (base : Nat) (F : Nat → Gau) : OwnGaus w base (.slice none 0 0) 0 F := World.ownsRow_nil _ _ _ _
theorem OwnGaus.empty (w : World) (g : Nat) (hg : g = w.heap.size) (F : Nat → Gau) : OwnGaus (w.alloc (.cells #[] 23)) w.heap.size (.slice (some ⟨g, 0, none⟩) 0 0) 0 F := by
  subst hg
  exact World.ownsRow_made w #[] 0 (Nat.le_refl _) (by decide) rfl
theorem ownGaus_form {w : World} {base n : Nat} {v : Value} {F : Nat → Gau} (h : OwnGaus w base v n F) : ∃ A c, v = .slice A n c ∧ n ≤ c ∧ GausAt w base A n F := by
  rcases h.2 with ⟨rfl, hx⟩ | ⟨g, cap, cur, rfl, hb, hg, hnc, hm, hsz, htake⟩
  · subst hx
    exact ⟨_, _, rfl, Nat.le_refl _, GausAt.nil_⟩
  · exact ⟨_, _, rfl, hnc, OwnGaus.gaus h⟩
theorem GausAt.part {w : World} {lo n : Nat} {A : Option Addr} {F : Nat → Gau} (h : GausAt w lo A n F) {j : Nat} (hj : j < n * 2) : ∃ b o, A = some ⟨b, o, none⟩ ∧ w.cell? ⟨b, o + j, none⟩ = some (.int .i64 ((F (j / 2)).part (j % 2))) := by
  obtain ⟨b, o, rfl, -, -, h0, h1⟩ := h (j / 2) (by omega)
  refine ⟨b, o, rfl, ?_⟩
  have hlt := Nat.mod_lt j (show 0 < 2 by decide)
  have hd := Nat.div_add_mod j 2
  obtain e | e : j % 2 = 0 ∨ j % 2 = 1 := by omega
  · rw [e, show o + j = o + j / 2 * 2 by omega]; exact h0
  · rw [e, show o + j = o + j / 2 * 2 + 1 by omega]; exact h1
set_option maxRecDepth 100000 in
theorem run_append_gaus (w : World) (ty : TypeId) (base lo : Nat) (v : Value) (n : Nat) (F : Nat → Gau) (hown : OwnGaus w base v n F)
    (A : Option Addr) (m c : Nat) (G : Nat → Gau) (hr : GausAt w lo A m G) (hnm : n + m ≤ 100000000) (hbase : base ≤ w.heap.size) :
    ∃ v' w', (Builtin.append_ #[75, 75] ty #[v, .slice A m c]).run Try.prog w = .ok v' w' ∧ OwnGaus w' base v' (n + m) (catG n F G) ∧ Below base w w' := by
  obtain ⟨i0, hi, hz0, hz1, hz2⟩ := info_parts gauInfo
  cases A with
  | none =>
    have hm : m = 0 := by
      rcases Nat.eq_zero_or_pos m with h0 | h0
      · exact h0
      · obtain ⟨b, o, e, -⟩ := hr 0 h0
        cases e
    subst hm
    have hrun : (Builtin.append_ #[75, 75] ty #[v, .slice none 0 c]).run Try.prog w = .ok v w := by
      rcases hown.2 with ⟨rfl, -⟩ | ⟨g, cap, cur, rfl, -, -, hnc, -⟩
      · simp [Builtin.append_, run_underlying Try.underlying75, sizeOf, typeInfo, hi, Builtin.lenOf, Builtin.firstCells]
      · simp [Builtin.append_, run_underlying Try.underlying75, sizeOf, typeInfo, hi, Builtin.lenOf, Builtin.firstCells, hnc, storeCells]
    exact ⟨v, w, hrun, OwnGaus.congr (F := F) hown fun j hj => by unfold catG; rw [if_pos (show j < n by omega)], Below.refl _ _⟩
  | some ad =>
    obtain ⟨v', w', hrun, hown', hg, -, -⟩ := run_append_own_at (P := Try.prog) w base 75 ty 23 i0 (.agg #[.int .i64 0, .int .i64 0]) 2 16 Try.underlying75 hi hz0 hz1 hz2 rfl (by decide) v n _ hown ad m c (gauVals m G) (by rw [gauVals_len])
      (fun j u hu => by
        rw [gauVals_get] at hu
        split at hu
        · rename_i hj
          obtain ⟨b, o, e, hc⟩ := hr.part hj
          injection e with e
          subst e
          injection hu with hu
          subst hu
          rw [Addr.add_lit]
          exact hc
        · cases hu)
      (fun u hu => by
        obtain ⟨j, -, rfl⟩ := List.mem_map.1 hu
        rfl) (by unfold maxLen; omega) (by omega) hbase
    rw [gauVals_cat] at hown'
    exact ⟨v', w', hrun, hown', (Below.refl _ _).grown hg hbase (fun k hk => (World.ownsRow.lt hown k hk).1)⟩
theorem wp_append_gaus {o : Oper} {a : Act} {K : Act → World → Prop} {Q : Exit → Act → World → Prop} (w : World) (s x : Operand)
    (ho : o.op = .call { callee := .builtin .append, args := #[s, x], argTypes := #[75, 75] })
    (base lo : Nat) (v : Value) (n : Nat) (F : Nat → Gau) (hs : a.eval s = v) (hown : OwnGaus w base v n F)
    (A : Option Addr) (m c : Nat) (G : Nat → Gau) (hx : a.eval x = .slice A m c) (hr : GausAt w lo A m G) (hnm : n + m ≤ 100000000) (hbase : base ≤ w.heap.size)
    (h : ∀ v' w', OwnGaus w' base v' (n + m) (catG n F G) → Below base w w' → K (a.put o.dst v') w') : o.wp Try.prog a w K Q := by
  obtain ⟨v', w', hrun, h1, h2⟩ := run_append_gaus w o.type base lo v n F hown A m c G hr hnm hbase
  unfold Oper.wp execOp
  simp only [ho, resolve, invoke, builtin, Sem.run_bind, Sem.run_pure, Result.andThen_ok, List.map_toArray, List.map_cons, List.map_nil, hs, hx, hrun]
  exact h v' w' h1 h2
theorem wpList_append_gaus {ops : Array Oper} {rest : List Oper} {o : Oper} {a : Act} {Q : Exit → Act → World → Prop} (w : World) (hgd : o.guard = none) (s x : Operand)
    (ho : o.op = .call { callee := .builtin .append, args := #[s, x], argTypes := #[75, 75] })
    (base lo : Nat) (v : Value) (n : Nat) (F : Nat → Gau) (hs : a.eval s = v) (hown : OwnGaus w base v n F)
    (A : Option Addr) (m c : Nat) (G : Nat → Gau) (hx : a.eval x = .slice A m c) (hr : GausAt w lo A m G) (hnm : n + m ≤ 100000000) (hbase : base ≤ w.heap.size)
    (h : ∀ v' w', OwnGaus w' base v' (n + m) (catG n F G) → Below base w w' → wpList Try.prog ops Q rest (a.put o.dst v') w') : wpList Try.prog ops Q (o :: rest) a w :=
  wpList_plain hgd fun _ hK => wp_append_gaus w s x ho base lo v n F hs hown A m c G hx hr hnm hbase fun v' w' h1 h2 => hK _ _ (h v' w' h1 h2)
theorem step_append_gaus {ops : Array Oper} {o : Oper} {a : Act} {K : Act → World → Prop} {Q : Exit → Act → World → Prop} {E : Prop} (w : World) (hgd : o.guard = none) (s x : Operand)
    (ho : o.op = .call { callee := .builtin .append, args := #[s, x], argTypes := #[75, 75] })
    (base lo : Nat) (v : Value) (n : Nat) (F : Nat → Gau) (hs : a.eval s = v) (hown : OwnGaus w base v n F)
    (A : Option Addr) (m c : Nat) (G : Nat → Gau) (hx : a.eval x = .slice A m c) (hr : GausAt w lo A m G) (hnm : n + m ≤ 100000000) (hbase : base ≤ w.heap.size)
    (h : ∀ v' w', OwnGaus w' base v' (n + m) (catG n F G) → Below base w w' → K (a.put o.dst v') w') :
    if Region.wanted o (yielded ops a.tmps) = true then Oper.wp Try.prog o a w K Q else E := by
  have hw : Region.wanted o (yielded ops a.tmps) = true := by simp [Region.wanted, hgd]
  rw [if_pos hw]
  exact wp_append_gaus w s x ho base lo v n F hs hown A m c G hx hr hnm hbase h
end Go.Proofs.Ytibdbopejnkefaa
/- gaussWithin, firstWrong and itemsError of whole complex numbers, entriesError of the code. -/
namespace Go.Proofs.Ytibdbopejnkefaa
open Go.RowKit
theorem size2 (M a b : Int) (F : Nat → Int) (h0 : F 0 = a) (h1 : F 1 = b) : sizeE M F 2 = (⟨a, b⟩ : Gau).err M := by
  unfold sizeE badE badE badE Gau.err Gau.isIn
  rw [h0, h1]
  cases withinB a (-M) M <;> cases withinB b (-M) M <;> simp [unI]
theorem Box.cells2 {w : World} {b : Nat} {t : TypeId} {p0 p1 : Value} (h : Box w b t #[p0, p1]) :
    w.cell? ⟨b, 0, none⟩ = some p0 ∧ w.cell? ⟨b, 1, none⟩ = some p1 ∧ w.frozen? ⟨b, 0, none⟩ = false ∧ w.frozen? ⟨b, 1, none⟩ = false ∧ b < w.heap.size :=
  ⟨h.at_ 0, h.at_ 1, h.free 0, h.free 1, h.lt⟩
set_option maxHeartbeats 1000000 in
theorem gaussWithin_any (M : Int) (w : World) :
    Calls Try.prog 38 #[.int .i64 M] w fun e w' => e = .returned (.func (.func 58) #[] #[.pointer (some ⟨w.heap.size, 0, none⟩)]) ∧ w.alloc (.cells #[.int .i64 M] 3) = w' := by
  go_enter Try.func38, Try.ntmps38
  go_wp2_with fail
  go_ret
  exact ⟨rfl, rfl⟩
set_option maxHeartbeats 1000000 in
set_option maxRecDepth 100000 in
theorem gaussWithin1_any (x : Gau) (M : Int) (b : Nat) (w : World) (hm : w.cell? ⟨b, 0, none⟩ = some (.int .i64 M)) (hM : 0 ≤ M ∧ M ≤ 9000000000000000000) :
    Calls Try.prog 58 #[.agg #[.int .i64 x.re, .int .i64 x.im], .pointer (some ⟨b, 0, none⟩)] w fun e w' => e = .returned (.int .i64 (x.err M)) ∧ Below w.heap.size w w' := by
  have hb := World.block_lt_of_cell? w _ hm
  simp only at hb
  have hm2 : (w.alloc (.cells #[.int .i64 x.re, .int .i64 x.im] 23)).cell? ⟨b, 0, none⟩ = some (.int .i64 M) := (((Below.refl w.heap.size w).alloc (Nat.le_refl _) _).cell (p := ⟨b, 0, none⟩) hb).trans hm
  have HPE := hide (fun (W : World) (g : Nat) (hg : g = W.heap.size) => partsError_any M (some ⟨g, 0, none⟩) 2 2 (fun j => [x.re, x.im].getD j 0) (W.alloc (.cells #[.int .i64 x.re, .int .i64 x.im] 3)) (by decide) hM (fun k hk => by
    have hb : Box (W.alloc (.cells #[.int .i64 x.re, .int .i64 x.im] 3)) g 3 #[.int .i64 x.re, .int .i64 x.im] := Box.made hg
    refine ⟨_, _, rfl, Nat.zero_le _, hb.lt, ?_⟩
    rw [hb.at_]
    match k, hk with
    | 0, _ => rfl
    | 1, _ => rfl))
  rw [size2 M x.re x.im (fun j => [x.re, x.im].getD j 0) rfl rfl] at HPE
  clear hm hM
  go_enter Try.func58, Try.ntmps58
  go_wp2_with fail
  refine (HPE.out _ _ (by simp)).mono ?_
  rintro e w1 ⟨rfl, rfl⟩
  go_wp2_with fail
  go_ret
  exact ⟨rfl, by (repeat (first | (with_reducible exact Below.refl _ _) | (with_reducible refine Go.below_drewN ?_ _) | (with_reducible refine Below.drew ?_) | (with_reducible refine Below.alloc ?_ (by first | exact Nat.le_refl _ | (simp; done) | (simp; omega) | omega) _) | (with_reducible refine Below.setCell ?_ (by first | exact Nat.le_refl _ | (simp; done) | (simp; omega) | omega) _)))⟩
set_option maxHeartbeats 2000000 in
theorem firstWrong_gaus (g : Nat) (lb : Array Value) (eg : ∀ args w, (callFunc g args).run Try.prog w = .ok (.enter g args) w) (p : Gau → Int) (A : Option Addr) (n c : Nat) (F : Nat → Gau) (w : World)
    (hn : n ≤ 100000) (hI : GausAt w 0 A n F) (hp : ∀ (x : Gau) W, Below w.heap.size w W → Calls Try.prog g (#[.agg #[.int .i64 x.re, .int .i64 x.im]] ++ lb) W fun e w' => e = .returned (.int .i64 (p x)) ∧ Below W.heap.size W w') :
    Calls Try.prog 57 #[.slice A n c, .func (.func g) #[] lb] w fun e w' => e = .returned (.tuple #[.int .i64 (badI (fun j => p (F j)) n : Nat), .int .i64 (badE (fun j => p (F j)) n)]) ∧ Below w.heap.size w w' := by
  have HP := hide hp
  have HI := hide hI
  clear hp hI
  go_enter Try.func57, Try.ntmps57
  go_wp2_with fail
  go_loopg [11] n (fun gg s wr => ∃ k : Nat, k ≤ n ∧ n - k ≤ gg ∧ s = .int .i64 (k : Int) ∧ Hid (badE (fun j => p (F j)) k = 0) ∧ Below w.heap.size w wr)
  case atStart => exact ⟨0, Nat.zero_le _, by omega, rfl, hide rfl, Below.refl _ _⟩
  case round =>
    obtain ⟨k, hk, hg, rfl, HZ, hB⟩ := hrel
    obtain ⟨wA, rfl⟩ : ∃ x : World, x = wr := ⟨_, rfl⟩
    have hBs := hB.size
    by_cases hlt : k < n
    · have hltz : (k : Int) < (n : Int) := by omega
      obtain ⟨b, o, rfl, -, hb, c0, c1⟩ := (HI.out.below hB) k hlt
      have HQ := hide (show p (F k) ≠ 0 → badE (fun j => p (F j)) n = p (F k) ∧ badI (fun j => p (F j)) n = k from fun h => ⟨badE_at (g := fun j => p (F j)) HZ.out h n hlt, badI_at (g := fun j => p (F j)) HZ.out h n hlt⟩)
      have HN := hide (show p (F k) = 0 → badE (fun j => p (F j)) (k + 1) = 0 from fun h => by rw [badE_succ HZ.out]; exact h)
      generalize F k = x at *
      have HC := hide (fun W hW => HP.out x W hW)
      generalize p x = r at *
      go_upto_region 4 with fail
      obtain ⟨W1, hW1⟩ : ∃ y : World, y = wA.alloc (.cells #[.int .i64 x.re, .int .i64 x.im] 23) := ⟨_, rfl⟩
      rw [← hW1]
      have bx1 : Box W1 wA.heap.size 23 #[.int .i64 x.re, .int .i64 x.im] := by rw [hW1]; exact Box.made rfl
      have hB1 : Below w.heap.size w W1 := by rw [hW1]; exact hB.alloc hBs _
      clear hW1 hB hb c0 c1
      obtain ⟨y0, y1, g0, g1, hl'⟩ := bx1.cells2
      have hcall := HC.out W1 hB1
      by_cases hr : r = 0
      · have HN2 := hide (HN.out hr)
        subst hr
        clear HQ HN
        go_wp2_with (go_at_fn g; refine hcall.mono ?_; rintro e w2 ⟨rfl, hb2⟩)
        go_roundg (n - (k + 1))
        case measure => omega
        case rel => exact ⟨k + 1, by omega, by omega, by go_num, HN2, hB1.trans (hb2.mono hB1.size)⟩
      · have t1 : (r != 0) = true := by simpa using hr
        have HQ2 := hide (HQ.out hr)
        clear HQ HN hr
        go_wp2_with (go_at_fn g; refine hcall.mono ?_; rintro e w2 ⟨rfl, hb2⟩)
        go_ret2
        exact ⟨by rw [HQ2.out.1, HQ2.out.2]; rfl, hB1.trans (hb2.mono hB1.size)⟩
    · obtain rfl : k = n := by omega
      go_wp2_with fail
      go_ret2
      exact ⟨by rw [HZ.out, badI_zero HZ.out]; rfl, hB⟩
set_option maxHeartbeats 1000000 in
theorem itemsError_gaus (M : Int) (A : Option Addr) (n c b : Nat) (F : Nat → Gau) (w : World) (hn : n ≤ 100000) (hI : GausAt w 0 A n F) (hm : w.cell? ⟨b, 0, none⟩ = some (.int .i64 M)) (hM : 0 ≤ M ∧ M ≤ 9000000000000000000) :
    Calls Try.prog 37 #[.slice A n c, .func (.func 58) #[] #[.pointer (some ⟨b, 0, none⟩)]] w fun e w' => e = .returned (.int .i64 (gausE M F n)) ∧ Below w.heap.size w w' := by
  have hb := World.block_lt_of_cell? w _ hm
  simp only at hb
  have HX := hide (firstWrong_gaus 58 #[.pointer (some ⟨b, 0, none⟩)] (enters_of Try.func58 (by kernel_rfl) rfl) (fun x => x.err M) A n c F w hn hI (fun x W hW => gaussWithin1_any x M b W ((hW.cell (p := ⟨b, 0, none⟩) hb).trans hm) hM))
  clear hI hm hb
  go_enter Try.func37, Try.ntmps37
  go_wp2_with (go_at_call 57; refine HX.out.mono ?_; rintro e w' ⟨rfl, hb1⟩)
  go_ret
  exact ⟨rfl, hb1⟩
end Go.Proofs.Ytibdbopejnkefaa
/- clipped, Clipped of the code. -/
namespace Go.Proofs.Ytibdbopejnkefaa
open Go.RowKit
/-- A part that is clipped. -/
def clipI (m p : Int) : Int := max (-m) (min p m)
def clipG (m : Int) (x : Gau) : Gau := ⟨clipI m x.re, clipI m x.im⟩
theorem clipI_within {m : Int} (h : 0 ≤ m) (p : Int) : -m ≤ clipI m p ∧ clipI m p ≤ m := by unfold clipI; omega
theorem clipI_le {m : Int} (h : 0 ≤ m) (p : Int) (M : Int) (hM : m ≤ M) : -M ≤ clipI m p ∧ clipI m p ≤ M := by unfold clipI; omega
/-- The error of clipped numbers. -/
def clipE (n : Nat) (F : Nat → Gau) (m : Int) : Int := firstE [unI (decide ((n : Int) ≤ 120)) 8, gausE 10000 F n, unI (withinB m 0 10000) 2]
theorem clipE_zero {n : Nat} {F : Nat → Gau} {m : Int} (h : clipE n F m = 0) : n ≤ 120 ∧ gausE 10000 F n = 0 ∧ 0 ≤ m ∧ m ≤ 10000 := by
  unfold clipE at h
  obtain ⟨h1, h⟩ := firstE_nil h
  obtain ⟨h2, h⟩ := firstE_nil h
  obtain ⟨h3, -⟩ := firstE_nil h
  have h1 := unI_zero (by decide) h1
  have h3 := withinB_iff.1 (unI_zero (by decide) h3)
  simp at h1
  exact ⟨by omega, h2, h3⟩
/-- What a call that gives numbers hands back beside its error V. -/
def GotG (W : World) (V : Int) (v : Value) (m : Nat) (F : Nat → Gau) : Prop := (V = 0 ∧ ∃ X x, v = .slice X m x ∧ GausAt W 0 X m F) ∨ (V ≠ 0 ∧ v = .slice none 0 0)
theorem GotG.below {W W' : World} {V : Int} {v : Value} {m : Nat} {F : Nat → Gau} (h : GotG W V v m F) (hb : Below W.heap.size W W') : GotG W' V v m F := by
  rcases h with ⟨h0, X, x, h1, h2⟩ | h
  · exact .inl ⟨h0, X, x, h1, h2.below hb⟩
  · exact .inr h
theorem World.cell_put2 {w : World} {b c o p : Nat} {v : Value} (h : w.cell? ⟨b, p, none⟩ = some v) (hn : b ≠ c) (u0 u1 : Value) : ((w.setCell ⟨c, o, none⟩ u0).setCell ⟨c, o + 1, none⟩ u1).cell? ⟨b, p, none⟩ = some v := by
  have f := fun (W : World) (q : Nat) (u : Value) (h : W.cell? ⟨b, p, none⟩ = some v) => (World.cell?_of_block (w := W) (w' := W.setCell ⟨c, q, none⟩ u) (a := ⟨b, p, none⟩) (heap_setCell_other W ⟨c, q, none⟩ b u hn)).trans h
  exact f _ _ _ (f _ _ _ h)
end Go.Proofs.Ytibdbopejnkefaa
/- ErrorOf of the code. -/
namespace Go.Proofs.Ytibdbopejnkefaa
open Go.RowKit
def sqG (x y : Gau) : Int := (x.re - y.re) * (x.re - y.re) + (x.im - y.im) * (x.im - y.im)
/-- The sum of the squares of the first n differences. -/
def errS (F G : Nat → Gau) : Nat → Int
  | 0 => 0
  | n + 1 => errS F G n + sqG (F n) (G n)
theorem sq_le {a M : Int} (h : -M ≤ a ∧ a ≤ M) : 0 ≤ a * a ∧ a * a ≤ M * M := by
  have h1 : 0 ≤ (M - a) * (M + a) := Int.mul_nonneg (by omega) (by omega)
  have h2 : 0 ≤ a * a := by
    rcases Int.le_total 0 a with h | h
    · exact Int.mul_nonneg h h
    · exact Int.mul_nonneg_of_nonpos_of_nonpos h h
  simp only [Int.sub_mul, Int.mul_add] at h1
  have h3 : M * a = a * M := Int.mul_comm _ _
  omega
theorem sqG_le {x y : Gau} {M N : Int} (hx : x.Within M) (hy : y.Within N) : (0 ≤ (x.re - y.re) * (x.re - y.re) ∧ (x.re - y.re) * (x.re - y.re) ≤ (M + N) * (M + N)) ∧ 0 ≤ (x.im - y.im) * (x.im - y.im) ∧ (x.im - y.im) * (x.im - y.im) ≤ (M + N) * (M + N) :=
  ⟨sq_le (by have := hx.re; have := hy.re; omega), sq_le (by have := hx.im; have := hy.im; omega)⟩
theorem errS_le {F G : Nat → Gau} : ∀ {n : Nat}, (∀ j, j < n → (F j).Within 10000) → (∀ j, j < n → (G j).Within 10000) → 0 ≤ errS F G n ∧ errS F G n ≤ 800000000 * (n : Int)
  | 0, _, _ => by show (0 : Int) ≤ 0 ∧ (0 : Int) ≤ _; simp
  | n + 1, h, k => by
    have h1 := errS_le (n := n) (fun j hj => h j (by omega)) (fun j hj => k j (by omega))
    have h2 := sqG_le (h n (by omega)) (k n (by omega))
    unfold errS sqG
    simp only [show ((10000 : Int) + 10000) * (10000 + 10000) = 400000000 from rfl] at h2
    omega
/-- The error of the error of two lists. -/
def errE (n m : Nat) (F G : Nat → Gau) : Int := firstE [unI (decide ((n : Int) ≤ 120)) 8, unI ((m : Int) == (n : Int)) 10, gausE 10000 F n, gausE 10000 G m]
theorem errE_zero {n m : Nat} {F G : Nat → Gau} (h : errE n m F G = 0) : n ≤ 120 ∧ m = n ∧ gausE 10000 F n = 0 ∧ gausE 10000 G n = 0 := by
  unfold errE at h
  obtain ⟨h1, h⟩ := firstE_nil h
  obtain ⟨h2, h⟩ := firstE_nil h
  obtain ⟨h3, h⟩ := firstE_nil h
  obtain ⟨h4, -⟩ := firstE_nil h
  have h1 := unI_zero (by decide) h1
  have h2 := unI_zero (by decide) h2
  simp at h1 h2
  have h2 : m = n := by omega
  subst h2
  exact ⟨by omega, rfl, h3, h4⟩
/-- What two lists come to. -/
def errV (n m : Nat) (F G : Nat → Gau) : Int := if errE n m F G = 0 then errS F G n else 0
end Go.Proofs.Ytibdbopejnkefaa
/- The reference on whole complex numbers: IsEntry, EntriesErr, CopyGausses, Gausses, GSub, GNorm, ErrorOf, Clipped. -/
namespace Go.Proofs.Ytibdbopejnkefaa
open Go.RowKit
theorem cellB {W W' : World} {b o : Nat} {v : Value} (hb : Below W.heap.size W W') (h : W.cell? ⟨b, o, none⟩ = some v) : W'.cell? ⟨b, o, none⟩ = some v :=
  (hb.cell (p := ⟨b, o, none⟩) (World.block_lt_of_cell? W _ h)).trans h
set_option maxHeartbeats 2000000 in
theorem isEntryR_any (x : Gau) (M : Int) (w : World) (hM : 0 ≤ M ∧ M ≤ 9000000000000000000) :
    Calls Try.prog 16 #[.agg #[.int .i64 x.re, .int .i64 x.im], .int .i64 M] w fun e w' => e = .returned (.bool (x.isIn M)) ∧ Below w.heap.size w w' := by
  have q1 : IntKind.i64.wrap (-M) = -M := IntWalk.i64_in _ (by omega)
  have HI := hide (show x.isIn M = (withinB x.re (-M) M && withinB x.im (-M) M) from rfl)
  generalize x.isIn M = v at *
  clear hM
  cases ea : withinB x.re (-M) M
  · have HV := hide (show v = false from by rw [HI.out, ea]; rfl)
    clear HI
    go_enter Try.func16, Try.ntmps16
    go_wp2_with (go_at_call 40; refine (within_any _ _ _ _).mono ?_; rintro e w' ⟨rfl, rfl⟩; rw [ea])
    go_ret
    exact ⟨by rw [HV.out]; rfl, by (repeat (first | (with_reducible exact Below.refl _ _) | (with_reducible refine Go.below_drewN ?_ _) | (with_reducible refine Below.drew ?_) | (with_reducible refine Below.alloc ?_ (by first | exact Nat.le_refl _ | (simp; done) | (simp; omega) | omega) _) | (with_reducible refine Below.setCell ?_ (by first | exact Nat.le_refl _ | (simp; done) | (simp; omega) | omega) _)))⟩
  have HV := hide (show v = withinB x.im (-M) M from by rw [HI.out, ea]; rfl)
  clear HI
  go_enter Try.func16, Try.ntmps16
  go_wp2_with (go_at_call 40; refine (within_any _ _ _ _).mono ?_; rintro e w' ⟨rfl, rfl⟩; first | rw [ea] | skip)
  go_ret
  exact ⟨by rw [HV.out]; rfl, by (repeat (first | (with_reducible exact Below.refl _ _) | (with_reducible refine Go.below_drewN ?_ _) | (with_reducible refine Below.drew ?_) | (with_reducible refine Below.alloc ?_ (by first | exact Nat.le_refl _ | (simp; done) | (simp; omega) | omega) _) | (with_reducible refine Below.setCell ?_ (by first | exact Nat.le_refl _ | (simp; done) | (simp; omega) | omega) _)))⟩
end Go.Proofs.Ytibdbopejnkefaa
/- A step of a held region: what a call made, behind N facts and Below. -/
namespace Go.Proofs.Ytibdbopejnkefaa
open Go.RowKit
theorem bst0 {B : Nat} {w1 W w2 : World} (hb : Below W.heap.size W w2) (h : Below B w1 W) (hB : B ≤ w1.heap.size) : Below B w1 w2 := h.trans (hb.mono (Nat.le_trans hB h.size))
theorem bst1 {B : Nat} {w1 W w2 : World} {p0 : Prop} (hb : Below W.heap.size W w2) (h : p0 ∧ Below B w1 W) (hB : B ≤ w1.heap.size) : Below B w1 w2 := h.2.trans (hb.mono (Nat.le_trans hB h.2.size))
theorem bst2 {B : Nat} {w1 W w2 : World} {p0 p1 : Prop} (hb : Below W.heap.size W w2) (h : p0 ∧ p1 ∧ Below B w1 W) (hB : B ≤ w1.heap.size) : Below B w1 w2 := h.2.2.trans (hb.mono (Nat.le_trans hB h.2.2.size))
theorem bst3 {B : Nat} {w1 W w2 : World} {p0 p1 p2 : Prop} (hb : Below W.heap.size W w2) (h : p0 ∧ p1 ∧ p2 ∧ Below B w1 W) (hB : B ≤ w1.heap.size) : Below B w1 w2 := h.2.2.2.trans (hb.mono (Nat.le_trans hB h.2.2.2.size))
theorem bst4 {B : Nat} {w1 W w2 : World} {p0 p1 p2 p3 : Prop} (hb : Below W.heap.size W w2) (h : p0 ∧ p1 ∧ p2 ∧ p3 ∧ Below B w1 W) (hB : B ≤ w1.heap.size) : Below B w1 w2 := h.2.2.2.2.trans (hb.mono (Nat.le_trans hB h.2.2.2.2.size))
theorem bst5 {B : Nat} {w1 W w2 : World} {p0 p1 p2 p3 p4 : Prop} (hb : Below W.heap.size W w2) (h : p0 ∧ p1 ∧ p2 ∧ p3 ∧ p4 ∧ Below B w1 W) (hB : B ≤ w1.heap.size) : Below B w1 w2 := h.2.2.2.2.2.trans (hb.mono (Nat.le_trans hB h.2.2.2.2.2.size))
theorem bst6 {B : Nat} {w1 W w2 : World} {p0 p1 p2 p3 p4 p5 : Prop} (hb : Below W.heap.size W w2) (h : p0 ∧ p1 ∧ p2 ∧ p3 ∧ p4 ∧ p5 ∧ Below B w1 W) (hB : B ≤ w1.heap.size) : Below B w1 w2 := h.2.2.2.2.2.2.trans (hb.mono (Nat.le_trans hB h.2.2.2.2.2.2.size))
theorem bst7 {B : Nat} {w1 W w2 : World} {p0 p1 p2 p3 p4 p5 p6 : Prop} (hb : Below W.heap.size W w2) (h : p0 ∧ p1 ∧ p2 ∧ p3 ∧ p4 ∧ p5 ∧ p6 ∧ Below B w1 W) (hB : B ≤ w1.heap.size) : Below B w1 w2 := h.2.2.2.2.2.2.2.trans (hb.mono (Nat.le_trans hB h.2.2.2.2.2.2.2.size))
theorem bst8 {B : Nat} {w1 W w2 : World} {p0 p1 p2 p3 p4 p5 p6 p7 : Prop} (hb : Below W.heap.size W w2) (h : p0 ∧ p1 ∧ p2 ∧ p3 ∧ p4 ∧ p5 ∧ p6 ∧ p7 ∧ Below B w1 W) (hB : B ≤ w1.heap.size) : Below B w1 w2 := h.2.2.2.2.2.2.2.2.trans (hb.mono (Nat.le_trans hB h.2.2.2.2.2.2.2.2.size))
theorem bst9 {B : Nat} {w1 W w2 : World} {p0 p1 p2 p3 p4 p5 p6 p7 p8 : Prop} (hb : Below W.heap.size W w2) (h : p0 ∧ p1 ∧ p2 ∧ p3 ∧ p4 ∧ p5 ∧ p6 ∧ p7 ∧ p8 ∧ Below B w1 W) (hB : B ≤ w1.heap.size) : Below B w1 w2 := h.2.2.2.2.2.2.2.2.2.trans (hb.mono (Nat.le_trans hB h.2.2.2.2.2.2.2.2.2.size))
theorem bst10 {B : Nat} {w1 W w2 : World} {p0 p1 p2 p3 p4 p5 p6 p7 p8 p9 : Prop} (hb : Below W.heap.size W w2) (h : p0 ∧ p1 ∧ p2 ∧ p3 ∧ p4 ∧ p5 ∧ p6 ∧ p7 ∧ p8 ∧ p9 ∧ Below B w1 W) (hB : B ≤ w1.heap.size) : Below B w1 w2 := h.2.2.2.2.2.2.2.2.2.2.trans (hb.mono (Nat.le_trans hB h.2.2.2.2.2.2.2.2.2.2.size))
theorem bst11 {B : Nat} {w1 W w2 : World} {p0 p1 p2 p3 p4 p5 p6 p7 p8 p9 p10 : Prop} (hb : Below W.heap.size W w2) (h : p0 ∧ p1 ∧ p2 ∧ p3 ∧ p4 ∧ p5 ∧ p6 ∧ p7 ∧ p8 ∧ p9 ∧ p10 ∧ Below B w1 W) (hB : B ≤ w1.heap.size) : Below B w1 w2 := h.2.2.2.2.2.2.2.2.2.2.2.trans (hb.mono (Nat.le_trans hB h.2.2.2.2.2.2.2.2.2.2.2.size))
theorem bst12 {B : Nat} {w1 W w2 : World} {p0 p1 p2 p3 p4 p5 p6 p7 p8 p9 p10 p11 : Prop} (hb : Below W.heap.size W w2) (h : p0 ∧ p1 ∧ p2 ∧ p3 ∧ p4 ∧ p5 ∧ p6 ∧ p7 ∧ p8 ∧ p9 ∧ p10 ∧ p11 ∧ Below B w1 W) (hB : B ≤ w1.heap.size) : Below B w1 w2 := h.2.2.2.2.2.2.2.2.2.2.2.2.trans (hb.mono (Nat.le_trans hB h.2.2.2.2.2.2.2.2.2.2.2.2.size))
theorem bst13 {B : Nat} {w1 W w2 : World} {p0 p1 p2 p3 p4 p5 p6 p7 p8 p9 p10 p11 p12 : Prop} (hb : Below W.heap.size W w2) (h : p0 ∧ p1 ∧ p2 ∧ p3 ∧ p4 ∧ p5 ∧ p6 ∧ p7 ∧ p8 ∧ p9 ∧ p10 ∧ p11 ∧ p12 ∧ Below B w1 W) (hB : B ≤ w1.heap.size) : Below B w1 w2 := h.2.2.2.2.2.2.2.2.2.2.2.2.2.trans (hb.mono (Nat.le_trans hB h.2.2.2.2.2.2.2.2.2.2.2.2.2.size))
theorem bst14 {B : Nat} {w1 W w2 : World} {p0 p1 p2 p3 p4 p5 p6 p7 p8 p9 p10 p11 p12 p13 : Prop} (hb : Below W.heap.size W w2) (h : p0 ∧ p1 ∧ p2 ∧ p3 ∧ p4 ∧ p5 ∧ p6 ∧ p7 ∧ p8 ∧ p9 ∧ p10 ∧ p11 ∧ p12 ∧ p13 ∧ Below B w1 W) (hB : B ≤ w1.heap.size) : Below B w1 w2 := h.2.2.2.2.2.2.2.2.2.2.2.2.2.2.trans (hb.mono (Nat.le_trans hB h.2.2.2.2.2.2.2.2.2.2.2.2.2.2.size))
theorem bst15 {B : Nat} {w1 W w2 : World} {p0 p1 p2 p3 p4 p5 p6 p7 p8 p9 p10 p11 p12 p13 p14 : Prop} (hb : Below W.heap.size W w2) (h : p0 ∧ p1 ∧ p2 ∧ p3 ∧ p4 ∧ p5 ∧ p6 ∧ p7 ∧ p8 ∧ p9 ∧ p10 ∧ p11 ∧ p12 ∧ p13 ∧ p14 ∧ Below B w1 W) (hB : B ≤ w1.heap.size) : Below B w1 w2 := h.2.2.2.2.2.2.2.2.2.2.2.2.2.2.2.trans (hb.mono (Nat.le_trans hB h.2.2.2.2.2.2.2.2.2.2.2.2.2.2.2.size))
theorem bst16 {B : Nat} {w1 W w2 : World} {p0 p1 p2 p3 p4 p5 p6 p7 p8 p9 p10 p11 p12 p13 p14 p15 : Prop} (hb : Below W.heap.size W w2) (h : p0 ∧ p1 ∧ p2 ∧ p3 ∧ p4 ∧ p5 ∧ p6 ∧ p7 ∧ p8 ∧ p9 ∧ p10 ∧ p11 ∧ p12 ∧ p13 ∧ p14 ∧ p15 ∧ Below B w1 W) (hB : B ≤ w1.heap.size) : Below B w1 w2 := h.2.2.2.2.2.2.2.2.2.2.2.2.2.2.2.2.trans (hb.mono (Nat.le_trans hB h.2.2.2.2.2.2.2.2.2.2.2.2.2.2.2.2.size))
theorem ballocH {B : Nat} {w1 W : World} (h : Below B w1 W) (hB : B ≤ w1.heap.size) (o : Obj) : Below B w1 (W.alloc o) := h.alloc (Nat.le_trans hB h.size) o
theorem quiet_ex {P : Program} {f : FuncId} {args : Array Value} {w : World} {n : Nat} {v : Value}
    (h : Calls P f args (w.drewN n) fun e w' => e = .returned v ∧ ∃ q, w' = (w.drewN n).drewN q) :
    Calls P f args (w.drewN n) fun e w'' => e = .returned v ∧ ∃ m, w'' = w.drewN m :=
  h.mono fun _ _ ⟨he, q, hq⟩ => ⟨he, n + q, by rw [hq, World.drewN_drewN]⟩
end Go.Proofs.Ytibdbopejnkefaa
