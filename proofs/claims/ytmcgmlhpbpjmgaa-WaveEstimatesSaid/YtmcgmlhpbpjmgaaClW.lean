/- Lemmas: Ra, Rb, Rc, Rd, Re, Rf, Rg. -/
import Derived.Laws.MakeOwn
import Derived.Laws.OwnMore
import Derived.OwnWalk
import Derived.Shelf.Abstract
import Derived.Lib.MinMax
import Derived.BigQuiet
import Derived.Deep.DeepCutAuto
import Derived.Test.YtmcgmlhpbpjmgaaBk01
import Derived.Test.YtmcgmlhpbpjmgaaBk04
import Derived.Test.YtmcgmlhpbpjmgaaBk09
set_option linter.unusedVariables false
set_option linter.unusedSimpArgs false
/- Whole complex numbers of chapter 4 in memory: slices of structs of two cells, those of the call's own, an append to one. -/
namespace Go.Proofs.Ytmcgmlhpbpjmgaa
open Go.RowKit
/-- A whole complex number. -/
structure Gau where
  re : Int
  im : Int
theorem Gau.same {x y : Gau} (h1 : x.re = y.re) (h2 : x.im = y.im) : x = y := by
  cases x; cases y; simp_all
def Gau.zero : Gau := ⟨0, 0⟩
def Gau.part (x : Gau) (i : Nat) : Int := if i = 0 then x.re else x.im
/-- No part is greater in size than M. -/
structure Gau.Within (M : Int) (x : Gau) : Prop where
  re : -M ≤ x.re ∧ x.re ≤ M
  im : -M ≤ x.im ∧ x.im ≤ M
def Gau.isIn (M : Int) (x : Gau) : Bool := withinB x.re (-M) M && withinB x.im (-M) M
theorem Gau.isIn_iff {M : Int} {x : Gau} : x.isIn M = true ↔ x.Within M := by
  unfold Gau.isIn
  simp only [Bool.and_eq_true, withinB_iff]
  exact ⟨fun ⟨h1, h2⟩ => ⟨h1, h2⟩, fun ⟨h1, h2⟩ => ⟨h1, h2⟩⟩
def Gau.err (x : Gau) (M : Int) : Int := unI (x.isIn M) 2
theorem Gau.err_zero {M : Int} {x : Gau} (h : x.err M = 0) : x.Within M := by
  unfold Gau.err unI at h
  by_cases hb : x.isIn M = true
  · exact Gau.isIn_iff.1 hb
  · rw [if_neg hb] at h; exact absurd h (by decide)
theorem Gau.Within.more {M N : Int} {x : Gau} (h : x.Within M) (hm : M ≤ N) : x.Within N := ⟨by have := h.re; omega, by have := h.im; omega⟩
def GausAt (w : World) (lo : Nat) (A : Option Addr) (n : Nat) (F : Nat → Gau) : Prop :=
  ∀ i, i < n → ∃ b o, A = some ⟨b, o, none⟩ ∧ lo ≤ b ∧ b < w.heap.size ∧ w.cell? ⟨b, o + i * 2, none⟩ = some (.int .i64 (F i).re) ∧ w.cell? ⟨b, o + i * 2 + 1, none⟩ = some (.int .i64 (F i).im)
section
variable {w w' : World} {lo n : Nat} {A : Option Addr} {F : Nat → Gau}
theorem GausAt.nil_ : GausAt w lo A 0 F := fun i h => absurd h (Nat.not_lt_zero i)
theorem GausAt.below (h : GausAt w lo A n F) (hb : Below w.heap.size w w') : GausAt w' lo A n F := fun i hi => by
  obtain ⟨b, o, e, h1, h2, h3, h4⟩ := h i hi
  exact ⟨b, o, e, h1, Nat.lt_of_lt_of_le h2 hb.size, (hb.cell (p := ⟨b, _, none⟩) h2).trans h3, (hb.cell (p := ⟨b, _, none⟩) h2).trans h4⟩
theorem GausAt.alloc (h : GausAt w lo A n F) (x : Obj) : GausAt (w.alloc x) lo A n F := h.below ((Below.refl _ _).alloc (Nat.le_refl _) _)
theorem GausAt.drewN (h : GausAt w lo A n F) (m : Nat) : GausAt (w.drewN m) lo A n F := h
theorem GausAt.weak {lo' : Nat} (h : GausAt w lo A n F) (hl : lo' ≤ lo) : GausAt w lo' A n F := fun i hi => by
  obtain ⟨b, o, e, h1, h2⟩ := h i hi
  exact ⟨b, o, e, Nat.le_trans hl h1, h2⟩
theorem GausAt.congr {G : Nat → Gau} (h : GausAt w lo A n F) (e : ∀ i, i < n → F i = G i) : GausAt w lo A n G := fun i hi => by
  rw [← e i hi]; exact h i hi
theorem GausAt.fewer {m : Nat} (h : GausAt w lo A n F) (hm : m ≤ n) : GausAt w lo A m F := fun i hi => h i (Nat.lt_of_lt_of_le hi hm)
theorem GausAt.one {b : Nat} {x : Gau} {t : TypeId} (h : Box w b t #[.int .i64 x.re, .int .i64 x.im]) : GausAt w 0 (some ⟨b, 0, none⟩) 1 (fun _ => x) := fun i hi => by
  obtain rfl : i = 0 := by omega
  exact ⟨b, 0, rfl, Nat.zero_le _, h.lt, h.at_ 0, h.at_ 1⟩
end
/-- The error of n numbers of size M at most. -/
def gausE (M : Int) (F : Nat → Gau) (n : Nat) : Int := badE (fun j => (F j).err M) n
theorem gausE_within {M : Int} {F : Nat → Gau} : ∀ {n : Nat}, gausE M F n = 0 → ∀ j, j < n → (F j).Within M
  | 0, _, j, hj => absurd hj (Nat.not_lt_zero _)
  | n + 1, h, j, hj => by
    unfold gausE badE at h
    by_cases h1 : badE (fun j => (F j).err M) n = 0
    · rw [if_pos h1] at h
      rcases Nat.lt_or_ge j n with h2 | h2
      · exact gausE_within h1 j h2
      · obtain rfl : j = n := by omega
        exact Gau.err_zero h
    · rw [if_neg h1] at h; exact absurd h h1
theorem gausE_cases (M : Int) (F : Nat → Gau) : ∀ n, gausE M F n = 0 ∨ gausE M F n = 2
  | 0 => .inl rfl
  | n + 1 => by
    rcases gausE_cases M F n with h | h
    · have h' : badE (fun j => (F j).err M) n = 0 := h
      unfold gausE badE
      rw [if_pos h']
      show (F n).err M = 0 ∨ (F n).err M = 2
      unfold Gau.err unI
      cases (F n).isIn M
      · exact .inr rfl
      · exact .inl rfl
    · have h' : badE (fun j => (F j).err M) n = 2 := h
      have h2 : ¬ badE (fun j => (F j).err M) n = 0 := by rw [h']; decide
      unfold gausE badE
      rw [if_neg h2]
      exact .inr h'
def gauVals (n : Nat) (F : Nat → Gau) : List Value := (List.range (n * 2)).map fun j => Value.int .i64 ((F (j / 2)).part (j % 2))
theorem gauVals_len (n : Nat) (F : Nat → Gau) : (gauVals n F).length = n * 2 := by simp [gauVals]
theorem gauVals_get (n : Nat) (F : Nat → Gau) (j : Nat) : (gauVals n F)[j]? = if j < n * 2 then some (.int .i64 ((F (j / 2)).part (j % 2))) else none := by
  unfold gauVals
  by_cases h : j < n * 2
  · rw [if_pos h]; simp [h]
  · rw [if_neg h, List.getElem?_eq_none (by simp; omega)]
theorem gauVals_congr {n : Nat} {F G : Nat → Gau} (h : ∀ j, j < n → F j = G j) : gauVals n F = gauVals n G := by
  unfold gauVals
  exact List.map_congr_left fun j hj => by
    have := List.mem_range.1 hj
    rw [h (j / 2) (by omega)]
def setGau (F : Nat → Gau) (k : Nat) (x : Gau) (j : Nat) : Gau := if j = k then x else F j
/-- A slice of the call's own, of n numbers F, in a block that is not ahead of base. -/
def OwnGaus (w : World) (base : Nat) (v : Value) (n : Nat) (F : Nat → Gau) : Prop := w.ownsRow base 61 2 v n (gauVals n F)
theorem OwnGaus.congr {w : World} {base n : Nat} {v : Value} {F G : Nat → Gau} (h : OwnGaus w base v n F) (e : ∀ j, j < n → F j = G j) : OwnGaus w base v n G := by
  unfold OwnGaus at h ⊢
  rwa [← gauVals_congr e]
theorem OwnGaus.drew {w : World} {base n : Nat} {v : Value} {F : Nat → Gau} (h : OwnGaus w base v n F) : OwnGaus w.drew base v n F := h
theorem OwnGaus.drewN {w : World} {base n : Nat} {v : Value} {F : Nat → Gau} (h : OwnGaus w base v n F) (q : Nat) : OwnGaus (w.drewN q) base v n F := h
theorem OwnGaus.alloc {w : World} {base n : Nat} {v : Value} {F : Nat → Gau} (h : OwnGaus w base v n F) (o : Obj) : OwnGaus (w.alloc o) base v n F := World.ownsRow.alloc h o
theorem OwnGaus.below {w w' : World} {base n : Nat} {v : Value} {F : Nat → Gau} (h : OwnGaus w base v n F) (hb : Below w.heap.size w w') : OwnGaus w' base v n F :=
  World.ownsRow.kept h (row := none) ⟨hb.os, hb.tape, hb.output, hb.size, fun k hk _ => hb.block k hk⟩ (by cases v.ownBlock <;> simp)
theorem OwnGaus.weak {w : World} {base base' n : Nat} {v : Value} {F : Nat → Gau} (h : OwnGaus w base v n F) (hb : base' ≤ base) : OwnGaus w base' v n F :=
  ⟨h.1, h.2.elim Or.inl (fun ⟨g, cap, cur, hv, hg, r⟩ => Or.inr ⟨g, cap, cur, hv, Nat.le_trans hb hg, r⟩)⟩
theorem OwnGaus.lt {w : World} {base n g c : Nat} {F : Nat → Gau} (h : OwnGaus w base (.slice (some ⟨g, 0, none⟩) n c) n F) : base ≤ g ∧ g < w.heap.size := World.ownsRow.lt h g rfl
theorem OwnGaus.part {w : World} {base n g c : Nat} {F : Nat → Gau} (h : OwnGaus w base (.slice (some ⟨g, 0, none⟩) n c) n F) {k i : Nat} (hk : k < n) (hi : i < 2) : w.cell? ⟨g, k * 2 + i, none⟩ = some (.int .i64 ((F k).part i)) := by
  rw [World.ownsRow.cellAt h (k * 2 + i) (by omega), gauVals_get, if_pos (by omega), show (k * 2 + i) / 2 = k by omega, show (k * 2 + i) % 2 = i by omega]
theorem OwnGaus.cells {w : World} {base n g c : Nat} {F : Nat → Gau} (h : OwnGaus w base (.slice (some ⟨g, 0, none⟩) n c) n F) {k : Nat} (hk : k < n) :
    w.cell? ⟨g, k * 2, none⟩ = some (.int .i64 (F k).re) ∧ w.cell? ⟨g, k * 2 + 1, none⟩ = some (.int .i64 (F k).im) :=
  ⟨h.part hk (show 0 < 2 by decide), h.part hk (show 1 < 2 by decide)⟩
theorem OwnGaus.frozen {w : World} {base n g c : Nat} {F : Nat → Gau} (h : OwnGaus w base (.slice (some ⟨g, 0, none⟩) n c) n F) (k : Nat) : w.frozen? ⟨g, k, none⟩ = false := World.ownsRow.frozenAt h k
theorem OwnGaus.frozen2 {w : World} {base n g c : Nat} {F : Nat → Gau} (h : OwnGaus w base (.slice (some ⟨g, 0, none⟩) n c) n F) (k : Nat) : w.frozen? ⟨g, k * 2, none⟩ = false ∧ w.frozen? ⟨g, k * 2 + 1, none⟩ = false := ⟨h.frozen _, h.frozen _⟩
theorem OwnGaus.gaus {w : World} {base n c : Nat} {A : Option Addr} {F : Nat → Gau} (h : OwnGaus w base (.slice A n c) n F) : GausAt w base A n F := fun i hi => by
  rcases h.2 with ⟨e, hx⟩ | ⟨g, cap, cur, e, hb, hg, hnc, hm, hsz, htake⟩
  · omega
  · injection e with e1 e2 e3
    subst e1
    have h' : OwnGaus w base (.slice (some ⟨g, 0, none⟩) n c) n F := h
    obtain ⟨k0, k1⟩ := h'.cells hi
    exact ⟨g, 0, rfl, hb, (Array.getElem?_eq_some_iff.1 hg).1, by rwa [Nat.zero_add], by rwa [Nat.zero_add]⟩
theorem OwnGaus.other {w : World} {base n : Nat} {v : Value} {F : Nat → Gau} (h : OwnGaus w base v n F) {k : Nat} (o : Nat) (u : Value) (hk : v.ownBlock ≠ some k) : OwnGaus (w.setCell ⟨k, o, none⟩ u) base v n F := by
  refine World.ownsRow.kept h (row := some k) ⟨rfl, rfl, rfl, by simp, fun j _ hj => heap_setCell_other w ⟨k, o, none⟩ j u (fun e => hj (by simp [e]))⟩ (.inr hk)
theorem OwnGaus.put {w : World} {base n g c : Nat} {F : Nat → Gau} (h : OwnGaus w base (.slice (some ⟨g, 0, none⟩) n c) n F) (k : Nat) (x : Gau) :
    OwnGaus ((w.setCell ⟨g, k * 2, none⟩ (.int .i64 x.re)).setCell ⟨g, k * 2 + 1, none⟩ (.int .i64 x.im)) base (.slice (some ⟨g, 0, none⟩) n c) n (setGau F k x) := by
  have h1 := (World.ownsRow.stored (World.ownsRow.stored h (k * 2) (.int .i64 x.re)).1 (k * 2 + 1) (.int .i64 x.im)).1
  have e : ((gauVals n F).set (k * 2) (.int .i64 x.re)).set (k * 2 + 1) (.int .i64 x.im) = gauVals n (setGau F k x) := by
    apply List.ext_getElem?
    intro j
    simp only [List.getElem?_set, List.length_set, gauVals_len, gauVals_get]
    by_cases hj : j < n * 2
    · have hd := Nat.div_add_mod j 2
      rw [if_pos hj]
      by_cases hk : j / 2 = k
      · have hs : setGau F k x (j / 2) = x := by unfold setGau; rw [if_pos hk]
        have hlt := Nat.mod_lt j (show 0 < 2 by decide)
        rw [hs, if_pos hj]
        obtain e | e : j % 2 = 0 ∨ j % 2 = 1 := by omega
        · rw [if_neg (by omega), if_pos (by omega), if_pos (by omega), e]; rfl
        · rw [if_pos (by omega), if_pos (by omega), e]; rfl
      · have hs : setGau F k x (j / 2) = F (j / 2) := by unfold setGau; rw [if_neg hk]
        rw [hs, if_neg (by omega), if_neg (by omega), if_pos hj]
    · rw [if_neg hj]
      simp only [if_neg hj]
      repeat' split
      all_goals first | rfl | omega
  rw [e] at h1
  exact h1
theorem Below.put2at {B c o : Nat} {w W : World} (h : Below B w W) (hc : B ≤ c) (u0 u1 : Value) : Below B w ((W.setCell ⟨c, o, none⟩ u0).setCell ⟨c, o + 1, none⟩ u1) := (h.setCell hc u0).setCell hc u1
theorem OwnGaus.made (w : World) (base g f : Nat) (hb : base ≤ w.heap.size) (hg : g = w.heap.size) (hf : f ≤ maxLen) : OwnGaus (w.alloc (.cells (madeCells #[.int .i64 0, .int .i64 0] (f * 2)) 61)) base (.slice (some ⟨g, 0, none⟩) f f) f (fun _ => Gau.zero) :=
  hg ▸ ⟨by rw [gauVals_len], .inr ⟨w.heap.size, f, _, rfl, hb, heap_alloc_new w _, Nat.le_refl _, hf, by simp [madeCells], by
    apply List.ext_getElem?
    intro j
    rw [gauVals_get]
    have hlt := Nat.mod_lt j (show 0 < 2 by decide)
    by_cases hj : j < f * 2
    · rw [if_pos hj]
      obtain e | e : j % 2 = 0 ∨ j % 2 = 1 := by omega
      all_goals (simp [madeCells, hj, e, Gau.part, Gau.zero])
    · rw [if_neg hj]; simp [madeCells]; omega⟩⟩
theorem gauInfo : (Try.prog.info? 61).map (fun i => (i.zero, i.size, i.bytes)) = some (some (.agg #[.int .i64 0, .int .i64 0]), 2, 16) := by kernel_rfl
theorem make_gaus (n : Nat) (hn : n ≤ 1000000000) (w : World) : (Instr.makeSlice 38 (.int .i64 (n : Int)) (.int .i64 (n : Int))).run Try.prog w = .ok (.slice (some ⟨w.heap.size, 0, none⟩) n n) (w.alloc (.cells (madeCells #[.int .i64 0, .int .i64 0] (n * 2)) 61)) := by
  obtain ⟨i0, hi, hz0, hz1, hz2⟩ := info_parts gauInfo
  have hr := run_make (P := Try.prog) w 38 61 i0 _ Try.underlying38 hi hz0 .i64 .i64 n n (by omega) (Int.le_refl _) (by rw [hz2]; omega) (by omega)
  simp only [Int.toNat_natCast, hz1] at hr
  exact hr
/-- F, and then G. -/
def catG (n : Nat) (F G : Nat → Gau) : Nat → Gau := fun j => if j < n then F j else G (j - n)
theorem gauVals_cat (n m : Nat) (F G : Nat → Gau) : gauVals n F ++ gauVals m G = gauVals (n + m) (catG n F G) := by
  apply List.ext_getElem?
  intro j
  rw [List.getElem?_append, gauVals_len, gauVals_get, gauVals_get, gauVals_get]
  unfold catG
  by_cases h1 : j < n * 2
  · rw [if_pos h1, if_pos h1, if_pos (by omega), if_pos (by omega)]
  · rw [if_neg h1]
    by_cases h2 : j - n * 2 < m * 2
    · rw [if_pos h2, if_pos (by omega), if_neg (by omega), show (j - n * 2) / 2 = j / 2 - n by omega, show (j - n * 2) % 2 = j % 2 by omega]
    · rw [if_neg h2, if_neg (by omega)]
theorem ownGaus_nil (w : World) (base : Nat) (F : Nat → Gau) : OwnGaus w base (.slice none 0 0) 0 F := World.ownsRow_nil _ _ _ _
theorem OwnGaus.empty (w : World) (g : Nat) (hg : g = w.heap.size) (F : Nat → Gau) : OwnGaus (w.alloc (.cells #[] 61)) w.heap.size (.slice (some ⟨g, 0, none⟩) 0 0) 0 F := by
  subst hg
  exact World.ownsRow_made w #[] 0 (Nat.le_refl _) (by decide) rfl
theorem ownGaus_form {w : World} {base n : Nat} {v : Value} {F : Nat → Gau} (h : OwnGaus w base v n F) : ∃ A c, v = .slice A n c ∧ n ≤ c ∧ GausAt w base A n F := by
  rcases h.2 with ⟨rfl, hx⟩ | ⟨g, cap, cur, rfl, hb, hg, hnc, hm, hsz, htake⟩
  · subst hx
    exact ⟨_, _, rfl, Nat.le_refl _, GausAt.nil_⟩
  · exact ⟨_, _, rfl, hnc, OwnGaus.gaus h⟩
theorem GausAt.part {w : World} {lo n : Nat} {A : Option Addr} {F : Nat → Gau} (h : GausAt w lo A n F) {j : Nat} (hj : j < n * 2) : ∃ b o, A = some ⟨b, o, none⟩ ∧ w.cell? ⟨b, o + j, none⟩ = some (.int .i64 ((F (j / 2)).part (j % 2))) := by
  obtain ⟨b, o, rfl, -, -, h0, h1⟩ := h (j / 2) (by omega)
  refine ⟨b, o, rfl, ?_⟩
  have hlt := Nat.mod_lt j (show 0 < 2 by decide)
  have hd := Nat.div_add_mod j 2
  obtain e | e : j % 2 = 0 ∨ j % 2 = 1 := by omega
  · rw [e, show o + j = o + j / 2 * 2 by omega]; exact h0
  · rw [e, show o + j = o + j / 2 * 2 + 1 by omega]; exact h1
set_option maxRecDepth 100000 in
theorem run_append_gaus (w : World) (ty : TypeId) (base lo : Nat) (v : Value) (n : Nat) (F : Nat → Gau) (hown : OwnGaus w base v n F)
    (A : Option Addr) (m c : Nat) (G : Nat → Gau) (hr : GausAt w lo A m G) (hnm : n + m ≤ 100000000) (hbase : base ≤ w.heap.size) :
    ∃ v' w', (Builtin.append_ #[38, 38] ty #[v, .slice A m c]).run Try.prog w = .ok v' w' ∧ OwnGaus w' base v' (n + m) (catG n F G) ∧ Below base w w' := by
  obtain ⟨i0, hi, hz0, hz1, hz2⟩ := info_parts gauInfo
  cases A with
  | none =>
    have hm : m = 0 := by
      rcases Nat.eq_zero_or_pos m with h0 | h0
      · exact h0
      · obtain ⟨b, o, e, -⟩ := hr 0 h0
        cases e
    subst hm
    have hrun : (Builtin.append_ #[38, 38] ty #[v, .slice none 0 c]).run Try.prog w = .ok v w := by
      rcases hown.2 with ⟨rfl, -⟩ | ⟨g, cap, cur, rfl, -, -, hnc, -⟩
      · simp [Builtin.append_, run_underlying Try.underlying38, sizeOf, typeInfo, hi, Builtin.lenOf, Builtin.firstCells]
      · simp [Builtin.append_, run_underlying Try.underlying38, sizeOf, typeInfo, hi, Builtin.lenOf, Builtin.firstCells, hnc, storeCells]
    exact ⟨v, w, hrun, OwnGaus.congr (F := F) hown fun j hj => by unfold catG; rw [if_pos (show j < n by omega)], Below.refl _ _⟩
  | some ad =>
    obtain ⟨v', w', hrun, hown', hg, -, -⟩ := run_append_own_at (P := Try.prog) w base 38 ty 61 i0 (.agg #[.int .i64 0, .int .i64 0]) 2 16 Try.underlying38 hi hz0 hz1 hz2 rfl (by decide) v n _ hown ad m c (gauVals m G) (by rw [gauVals_len])
      (fun j u hu => by
        rw [gauVals_get] at hu
        split at hu
        · rename_i hj
          obtain ⟨b, o, e, hc⟩ := hr.part hj
          injection e with e
          subst e
          injection hu with hu
          subst hu
          rw [Addr.add_lit]
          exact hc
        · cases hu)
      (fun u hu => by
        obtain ⟨j, -, rfl⟩ := List.mem_map.1 hu
        rfl) (by unfold maxLen; omega) (by omega) hbase
    rw [gauVals_cat] at hown'
    exact ⟨v', w', hrun, hown', (Below.refl _ _).grown hg hbase (fun k hk => (World.ownsRow.lt hown k hk).1)⟩
theorem wp_append_gaus {o : Oper} {a : Act} {K : Act → World → Prop} {Q : Exit → Act → World → Prop} (w : World) (s x : Operand)
    (ho : o.op = .call { callee := .builtin .append, args := #[s, x], argTypes := #[38, 38] })
    (base lo : Nat) (v : Value) (n : Nat) (F : Nat → Gau) (hs : a.eval s = v) (hown : OwnGaus w base v n F)
    (A : Option Addr) (m c : Nat) (G : Nat → Gau) (hx : a.eval x = .slice A m c) (hr : GausAt w lo A m G) (hnm : n + m ≤ 100000000) (hbase : base ≤ w.heap.size)
    (h : ∀ v' w', OwnGaus w' base v' (n + m) (catG n F G) → Below base w w' → K (a.put o.dst v') w') : o.wp Try.prog a w K Q := by
  obtain ⟨v', w', hrun, h1, h2⟩ := run_append_gaus w o.type base lo v n F hown A m c G hr hnm hbase
  unfold Oper.wp execOp
  simp only [ho, resolve, invoke, builtin, Sem.run_bind, Sem.run_pure, Result.andThen_ok, List.map_toArray, List.map_cons, List.map_nil, hs, hx, hrun]
  exact h v' w' h1 h2
theorem wpList_append_gaus {ops : Array Oper} {rest : List Oper} {o : Oper} {a : Act} {Q : Exit → Act → World → Prop} (w : World) (hgd : o.guard = none) (s x : Operand)
    (ho : o.op = .call { callee := .builtin .append, args := #[s, x], argTypes := #[38, 38] })
    (base lo : Nat) (v : Value) (n : Nat) (F : Nat → Gau) (hs : a.eval s = v) (hown : OwnGaus w base v n F)
    (A : Option Addr) (m c : Nat) (G : Nat → Gau) (hx : a.eval x = .slice A m c) (hr : GausAt w lo A m G) (hnm : n + m ≤ 100000000) (hbase : base ≤ w.heap.size)
    (h : ∀ v' w', OwnGaus w' base v' (n + m) (catG n F G) → Below base w w' → wpList Try.prog ops Q rest (a.put o.dst v') w') : wpList Try.prog ops Q (o :: rest) a w :=
  wpList_plain hgd fun _ hK => wp_append_gaus w s x ho base lo v n F hs hown A m c G hx hr hnm hbase fun v' w' h1 h2 => hK _ _ (h v' w' h1 h2)
theorem step_append_gaus {ops : Array Oper} {o : Oper} {a : Act} {K : Act → World → Prop} {Q : Exit → Act → World → Prop} {E : Prop} (w : World) (hgd : o.guard = none) (s x : Operand)
    (ho : o.op = .call { callee := .builtin .append, args := #[s, x], argTypes := #[38, 38] })
    (base lo : Nat) (v : Value) (n : Nat) (F : Nat → Gau) (hs : a.eval s = v) (hown : OwnGaus w base v n F)
    (A : Option Addr) (m c : Nat) (G : Nat → Gau) (hx : a.eval x = .slice A m c) (hr : GausAt w lo A m G) (hnm : n + m ≤ 100000000) (hbase : base ≤ w.heap.size)
    (h : ∀ v' w', OwnGaus w' base v' (n + m) (catG n F G) → Below base w w' → K (a.put o.dst v') w') :
    if Region.wanted o (yielded ops a.tmps) = true then Oper.wp Try.prog o a w K Q else E := by
  have hw : Region.wanted o (yielded ops a.tmps) = true := by simp [Region.wanted, hgd]
  rw [if_pos hw]
  exact wp_append_gaus w s x ho base lo v n F hs hown A m c G hx hr hnm hbase h
end Go.Proofs.Ytmcgmlhpbpjmgaa
/- gaussWithin, firstWrong and itemsError of whole complex numbers, entriesError of the code. -/
namespace Go.Proofs.Ytmcgmlhpbpjmgaa
open Go.RowKit
theorem size2 (M a b : Int) (F : Nat → Int) (h0 : F 0 = a) (h1 : F 1 = b) : sizeE M F 2 = (⟨a, b⟩ : Gau).err M := by
  unfold sizeE badE badE badE Gau.err Gau.isIn
  rw [h0, h1]
  cases withinB a (-M) M <;> cases withinB b (-M) M <;> simp [unI]
theorem Box.cells2 {w : World} {b : Nat} {t : TypeId} {p0 p1 : Value} (h : Box w b t #[p0, p1]) :
    w.cell? ⟨b, 0, none⟩ = some p0 ∧ w.cell? ⟨b, 1, none⟩ = some p1 ∧ w.frozen? ⟨b, 0, none⟩ = false ∧ w.frozen? ⟨b, 1, none⟩ = false ∧ b < w.heap.size :=
  ⟨h.at_ 0, h.at_ 1, h.free 0, h.free 1, h.lt⟩
set_option maxHeartbeats 1000000 in
theorem gaussWithin_any (M : Int) (w : World) :
    Calls Try.prog 91 #[.int .i64 M] w fun e w' => e = .returned (.func (.func 106) #[] #[.pointer (some ⟨w.heap.size, 0, none⟩)]) ∧ w.alloc (.cells #[.int .i64 M] 3) = w' := by
  go_enter Try.func91, Try.ntmps91
  go_wp2_with fail
  go_ret
  exact ⟨rfl, rfl⟩
set_option maxHeartbeats 1000000 in
set_option maxRecDepth 100000 in
theorem gaussWithin1_any (x : Gau) (M : Int) (b : Nat) (w : World) (hm : w.cell? ⟨b, 0, none⟩ = some (.int .i64 M)) (hM : 0 ≤ M ∧ M ≤ 9000000000000000000) :
    Calls Try.prog 106 #[.agg #[.int .i64 x.re, .int .i64 x.im], .pointer (some ⟨b, 0, none⟩)] w fun e w' => e = .returned (.int .i64 (x.err M)) ∧ Below w.heap.size w w' := by
  have hb := World.block_lt_of_cell? w _ hm
  simp only at hb
  have hm2 : (w.alloc (.cells #[.int .i64 x.re, .int .i64 x.im] 61)).cell? ⟨b, 0, none⟩ = some (.int .i64 M) := (((Below.refl w.heap.size w).alloc (Nat.le_refl _) _).cell (p := ⟨b, 0, none⟩) hb).trans hm
  have HPE := hide (fun (W : World) (g : Nat) (hg : g = W.heap.size) => partsError_any M (some ⟨g, 0, none⟩) 2 2 (fun j => [x.re, x.im].getD j 0) (W.alloc (.cells #[.int .i64 x.re, .int .i64 x.im] 3)) (by decide) hM (fun k hk => by
    have hb : Box (W.alloc (.cells #[.int .i64 x.re, .int .i64 x.im] 3)) g 3 #[.int .i64 x.re, .int .i64 x.im] := Box.made hg
    refine ⟨_, _, rfl, Nat.zero_le _, hb.lt, ?_⟩
    rw [hb.at_]
    match k, hk with
    | 0, _ => rfl
    | 1, _ => rfl))
  rw [size2 M x.re x.im (fun j => [x.re, x.im].getD j 0) rfl rfl] at HPE
  clear hm hM
  go_enter Try.func106, Try.ntmps106
  go_wp2_with fail
  refine (HPE.out _ _ (by simp)).mono ?_
  rintro e w1 ⟨rfl, rfl⟩
  go_wp2_with fail
  go_ret
  exact ⟨rfl, by (repeat (first | (with_reducible exact Below.refl _ _) | (with_reducible refine Go.below_drewN ?_ _) | (with_reducible refine Below.drew ?_) | (with_reducible refine Below.alloc ?_ (by first | exact Nat.le_refl _ | (simp; done) | (simp; omega) | omega) _) | (with_reducible refine Below.setCell ?_ (by first | exact Nat.le_refl _ | (simp; done) | (simp; omega) | omega) _)))⟩
set_option maxHeartbeats 2000000 in
theorem firstWrong_gaus (g : Nat) (lb : Array Value) (eg : ∀ args w, (callFunc g args).run Try.prog w = .ok (.enter g args) w) (p : Gau → Int) (A : Option Addr) (n c : Nat) (F : Nat → Gau) (w : World)
    (hn : n ≤ 100000) (hI : GausAt w 0 A n F) (hp : ∀ (x : Gau) W, Below w.heap.size w W → Calls Try.prog g (#[.agg #[.int .i64 x.re, .int .i64 x.im]] ++ lb) W fun e w' => e = .returned (.int .i64 (p x)) ∧ Below W.heap.size W w') :
    Calls Try.prog 92 #[.slice A n c, .func (.func g) #[] lb] w fun e w' => e = .returned (.tuple #[.int .i64 (badI (fun j => p (F j)) n : Nat), .int .i64 (badE (fun j => p (F j)) n)]) ∧ Below w.heap.size w w' := by
  have HP := hide hp
  have HI := hide hI
  clear hp hI
  go_enter Try.func92, Try.ntmps92
  go_wp2_with fail
  go_loopg [11] n (fun gg s wr => ∃ k : Nat, k ≤ n ∧ n - k ≤ gg ∧ s = .int .i64 (k : Int) ∧ Hid (badE (fun j => p (F j)) k = 0) ∧ Below w.heap.size w wr)
  case atStart => exact ⟨0, Nat.zero_le _, by omega, rfl, hide rfl, Below.refl _ _⟩
  case round =>
    obtain ⟨k, hk, hg, rfl, HZ, hB⟩ := hrel
    obtain ⟨wA, rfl⟩ : ∃ x : World, x = wr := ⟨_, rfl⟩
    have hBs := hB.size
    by_cases hlt : k < n
    · have hltz : (k : Int) < (n : Int) := by omega
      obtain ⟨b, o, rfl, -, hb, c0, c1⟩ := (HI.out.below hB) k hlt
      have HQ := hide (show p (F k) ≠ 0 → badE (fun j => p (F j)) n = p (F k) ∧ badI (fun j => p (F j)) n = k from fun h => ⟨badE_at (g := fun j => p (F j)) HZ.out h n hlt, badI_at (g := fun j => p (F j)) HZ.out h n hlt⟩)
      have HN := hide (show p (F k) = 0 → badE (fun j => p (F j)) (k + 1) = 0 from fun h => by rw [badE_succ HZ.out]; exact h)
      generalize F k = x at *
      have HC := hide (fun W hW => HP.out x W hW)
      generalize p x = r at *
      go_upto_region 4 with fail
      obtain ⟨W1, hW1⟩ : ∃ y : World, y = wA.alloc (.cells #[.int .i64 x.re, .int .i64 x.im] 61) := ⟨_, rfl⟩
      rw [← hW1]
      have bx1 : Box W1 wA.heap.size 61 #[.int .i64 x.re, .int .i64 x.im] := by rw [hW1]; exact Box.made rfl
      have hB1 : Below w.heap.size w W1 := by rw [hW1]; exact hB.alloc hBs _
      clear hW1 hB hb c0 c1
      obtain ⟨y0, y1, g0, g1, hl'⟩ := bx1.cells2
      have hcall := HC.out W1 hB1
      by_cases hr : r = 0
      · have HN2 := hide (HN.out hr)
        subst hr
        clear HQ HN
        go_wp2_with (go_at_fn g; refine hcall.mono ?_; rintro e w2 ⟨rfl, hb2⟩)
        go_roundg (n - (k + 1))
        case measure => omega
        case rel => exact ⟨k + 1, by omega, by omega, by go_num, HN2, hB1.trans (hb2.mono hB1.size)⟩
      · have t1 : (r != 0) = true := by simpa using hr
        have HQ2 := hide (HQ.out hr)
        clear HQ HN hr
        go_wp2_with (go_at_fn g; refine hcall.mono ?_; rintro e w2 ⟨rfl, hb2⟩)
        go_ret2
        exact ⟨by rw [HQ2.out.1, HQ2.out.2]; rfl, hB1.trans (hb2.mono hB1.size)⟩
    · obtain rfl : k = n := by omega
      go_wp2_with fail
      go_ret2
      exact ⟨by rw [HZ.out, badI_zero HZ.out]; rfl, hB⟩
set_option maxHeartbeats 1000000 in
theorem itemsError_gaus (M : Int) (A : Option Addr) (n c b : Nat) (F : Nat → Gau) (w : World) (hn : n ≤ 100000) (hI : GausAt w 0 A n F) (hm : w.cell? ⟨b, 0, none⟩ = some (.int .i64 M)) (hM : 0 ≤ M ∧ M ≤ 9000000000000000000) :
    Calls Try.prog 65 #[.slice A n c, .func (.func 106) #[] #[.pointer (some ⟨b, 0, none⟩)]] w fun e w' => e = .returned (.int .i64 (gausE M F n)) ∧ Below w.heap.size w w' := by
  have hb := World.block_lt_of_cell? w _ hm
  simp only at hb
  have HX := hide (firstWrong_gaus 106 #[.pointer (some ⟨b, 0, none⟩)] (enters_of Try.func106 (by kernel_rfl) rfl) (fun x => x.err M) A n c F w hn hI (fun x W hW => gaussWithin1_any x M b W ((hW.cell (p := ⟨b, 0, none⟩) hb).trans hm) hM))
  clear hI hm hb
  go_enter Try.func65, Try.ntmps65
  go_wp2_with (go_at_call 92; refine HX.out.mono ?_; rintro e w' ⟨rfl, hb1⟩)
  go_ret
  exact ⟨rfl, hb1⟩
set_option maxHeartbeats 1000000 in
theorem entriesError_any (A : Option Addr) (n c : Nat) (F : Nat → Gau) (w : World) (hn : n ≤ 100000) (hI : GausAt w 0 A n F) :
    Calls Try.prog 59 #[.slice A n c] w fun e w' => e = .returned (.int .i64 (gausE 10000 F n)) ∧ Below w.heap.size w w' := by
  have HI := hide hI
  clear hI
  go_enter Try.func59, Try.ntmps59
  go_wp2_with fail
  refine (gaussWithin_any _ _).mono ?_
  rintro e w1 ⟨rfl, hw1⟩
  have hc : w1.cell? ⟨w.heap.size, 0, none⟩ = some (.int .i64 10000) := by rw [← hw1]; exact (Box.made rfl : Box _ w.heap.size 3 #[.int .i64 10000]).at_ 0
  have hB1 : Below w.heap.size w w1 := by rw [← hw1]; exact (Below.refl _ _).alloc (Nat.le_refl _) _
  clear hw1
  go_wp2_with fail
  refine (itemsError_gaus 10000 A n c w.heap.size F _ hn (HI.out.below hB1) hc (by decide)).mono ?_
  rintro e w2 ⟨rfl, hb2⟩
  go_wp2_with fail
  go_ret
  exact ⟨rfl, hB1.trans (hb2.mono hB1.size)⟩
end Go.Proofs.Ytmcgmlhpbpjmgaa
/- clipped, Clipped of the code. -/
namespace Go.Proofs.Ytmcgmlhpbpjmgaa
open Go.RowKit
/-- A part that is clipped. -/
def clipI (m p : Int) : Int := max (-m) (min p m)
def clipG (m : Int) (x : Gau) : Gau := ⟨clipI m x.re, clipI m x.im⟩
theorem clipI_within {m : Int} (h : 0 ≤ m) (p : Int) : -m ≤ clipI m p ∧ clipI m p ≤ m := by unfold clipI; omega
theorem clipI_le {m : Int} (h : 0 ≤ m) (p : Int) (M : Int) (hM : m ≤ M) : -M ≤ clipI m p ∧ clipI m p ≤ M := by unfold clipI; omega
set_option maxHeartbeats 1000000 in
theorem clipped_any (p m : Int) (w : World) (hm : 0 ≤ m ∧ m ≤ 10000) :
    Calls Try.prog 61 #[.int .i64 p, .int .i64 m] w fun e w' => e = .returned (.int .i64 (clipI m p)) ∧ w = w' := by
  have q1 : IntKind.i64.wrap (-m) = -m := IntWalk.i64_in _ (by omega)
  clear hm
  go_enter Try.func61, Try.ntmps61
  go_wp2_with fail
  go_ret
  exact ⟨rfl, rfl⟩
/-- The error of clipped numbers. -/
def clipE (n : Nat) (F : Nat → Gau) (m : Int) : Int := firstE [unI (decide ((n : Int) ≤ 120)) 8, gausE 10000 F n, unI (withinB m 0 10000) 2]
theorem clipE_zero {n : Nat} {F : Nat → Gau} {m : Int} (h : clipE n F m = 0) : n ≤ 120 ∧ gausE 10000 F n = 0 ∧ 0 ≤ m ∧ m ≤ 10000 := by
  unfold clipE at h
  obtain ⟨h1, h⟩ := firstE_nil h
  obtain ⟨h2, h⟩ := firstE_nil h
  obtain ⟨h3, -⟩ := firstE_nil h
  have h1 := unI_zero (by decide) h1
  have h3 := withinB_iff.1 (unI_zero (by decide) h3)
  simp at h1
  exact ⟨by omega, h2, h3⟩
/-- What a call that gives numbers hands back beside its error V. -/
def GotG (W : World) (V : Int) (v : Value) (m : Nat) (F : Nat → Gau) : Prop := (V = 0 ∧ ∃ X x, v = .slice X m x ∧ GausAt W 0 X m F) ∨ (V ≠ 0 ∧ v = .slice none 0 0)
theorem GotG.below {W W' : World} {V : Int} {v : Value} {m : Nat} {F : Nat → Gau} (h : GotG W V v m F) (hb : Below W.heap.size W W') : GotG W' V v m F := by
  rcases h with ⟨h0, X, x, h1, h2⟩ | h
  · exact .inl ⟨h0, X, x, h1, h2.below hb⟩
  · exact .inr h
theorem World.cell_put2 {w : World} {b c o p : Nat} {v : Value} (h : w.cell? ⟨b, p, none⟩ = some v) (hn : b ≠ c) (u0 u1 : Value) : ((w.setCell ⟨c, o, none⟩ u0).setCell ⟨c, o + 1, none⟩ u1).cell? ⟨b, p, none⟩ = some v := by
  have f := fun (W : World) (q : Nat) (u : Value) (h : W.cell? ⟨b, p, none⟩ = some v) => (World.cell?_of_block (w := W) (w' := W.setCell ⟨c, q, none⟩ u) (a := ⟨b, p, none⟩) (heap_setCell_other W ⟨c, q, none⟩ b u hn)).trans h
  exact f _ _ _ (f _ _ _ h)
set_option maxHeartbeats 2000000 in
set_option maxRecDepth 100000 in
theorem Clipped_any (A : Option Addr) (n c : Nat) (F : Nat → Gau) (m : Int) (w : World) (hn : n ≤ 100000) (hI : GausAt w 0 A n F) :
    Calls Try.prog 17 #[.slice A n c, .int .i64 m] w fun e w' => ∃ v, e = .returned (.tuple #[v, .int .i64 (clipE n F m)]) ∧ GotG w' (clipE n F m) v n (fun j => clipG m (F j)) ∧ Below w.heap.size w w' := by
  have HE := hide (show firstE [unI (decide ((n : Int) ≤ 120)) 8, gausE 10000 F n, unI (withinB m 0 10000) 2] = clipE n F m from rfl)
  have HX := hide (entriesError_any A n c F w hn hI)
  have HI := hide hI
  have HZ := hide (clipE_zero (n := n) (F := F) (m := m))
  clear hI
  generalize clipE n F m = V at *
  generalize gausE 10000 F n = s at *
  go_enter Try.func17, Try.ntmps17
  go_wp2_with (go_at_call 43; refine (unless_any _ _ _).mono ?_; rintro e w' ⟨rfl, rfl⟩)
  refine HX.out.mono ?_
  rintro e w1 ⟨rfl, hb1⟩
  have HB1 := hide hb1
  clear hb1
  go_wp2_with (first | (go_at_call 43; refine (unless_any _ _ _).mono ?_; rintro e w' ⟨rfl, rfl⟩) | (go_at_call 60; refine (isWithin_any _ _ _ _).mono ?_; rintro e w' ⟨rfl, rfl⟩))
  refine (firstError_laid [unI (decide ((n : Int) ≤ 120)) 8, s, unI (withinB m 0 10000) 2] 3 _ _ rfl (by decide)).mono ?_
  rintro e w2 ⟨rfl, hw2⟩
  rw [HE.out]
  have HB2 := hide (show Below w.heap.size w w2 by rw [← hw2]; exact HB1.out.alloc HB1.out.size _)
  clear hw2 HB1 HX
  by_cases hv : V = 0
  case neg =>
    have tv : (V != 0) = true := by simpa using hv
    have HV := hide hv
    clear HZ HE hv
    go_wp2_with fail
    go_ret2
    exact ⟨_, rfl, .inr ⟨HV.out, rfl⟩, HB2.out⟩
  obtain ⟨hn120, -, hm⟩ := HZ.out hv
  have HC := hide (fun p W => clipped_any p m W hm)
  subst hv
  clear HZ HE hm
  have hmk := fun W => make_gaus n (by omega) W
  obtain ⟨g, hg⟩ : ∃ g, g = w2.heap.size := ⟨_, rfl⟩
  have hgw : w.heap.size ≤ g := by rw [hg]; exact HB2.out.size
  have hmade := hide (OwnGaus.made w2 w.heap.size g n HB2.out.size hg (by unfold maxLen; omega))
  go_wp2_with fail
  clear hmk
  rw [← hg]
  obtain ⟨w3, hw3⟩ : ∃ y : World, y = w2.alloc (.cells (madeCells #[.int .i64 0, .int .i64 0] (n * 2)) 61) := ⟨_, rfl⟩
  rw [← hw3] at hmade
  have hB3 : Below w.heap.size w w3 := by rw [hw3]; exact HB2.out.alloc HB2.out.size _
  rw [← hw3]
  clear hw3 HB2 hg
  go_loopw [29] (fun i wr => ∃ k : Nat, k ≤ n ∧ i = .int .i64 (k : Int) ∧ OwnGaus wr w.heap.size (.slice (some ⟨g, 0, none⟩) n n) n (fun i => if i < k then clipG m (F i) else Gau.zero) ∧ Below w.heap.size w wr) (fun i _ => n - (Go.RowKit.intOf i).toNat)
  case atStart => exact ⟨0, Nat.zero_le _, rfl, hmade.out.congr (fun _ _ => by simp), hB3⟩
  case round =>
    clear hmade hB3
    obtain ⟨k, hk, rfl, ho, hB⟩ := hrel
    obtain ⟨wA, rfl⟩ : ∃ x : World, x = wr := ⟨_, rfl⟩
    have hBs := hB.size
    by_cases hlt : k < n
    · have hltz : (k : Int) < (n : Int) := by omega
      obtain ⟨b, o, rfl, -, hb, c0, c1⟩ := (HI.out.below hB) k hlt
      have HEE := hide (fun (Q : Nat → Gau) (z : Gau) (hz : z = clipG m (F k)) (hQ : Q = fun i => if i < k then clipG m (F i) else Gau.zero) i (_ : i < n) => (show setGau Q k z i = if i < k + 1 then clipG m (F i) else Gau.zero from by
        subst hQ
        subst hz
        unfold setGau
        by_cases e1 : i = k
        · subst e1; rw [if_pos rfl, if_pos (by omega)]
        · rw [if_neg e1]
          show (if i < k then clipG m (F i) else Gau.zero) = _
          by_cases e2 : i < k
          · rw [if_pos e2, if_pos (by omega)]
          · rw [if_neg e2, if_neg (by omega)]))
      obtain ⟨Q, hQ⟩ : ∃ Q, Q = fun i => if i < k then clipG m (F i) else Gau.zero := ⟨_, rfl⟩
      obtain ⟨x, hx⟩ : ∃ z, z = F k := ⟨_, rfl⟩
      have HQE := hide (HEE.out Q (clipG m x) (by rw [hx]) hQ)
      have HCr := hide (fun W => HC.out x.re W)
      have HCi := hide (fun W => HC.out x.im W)
      obtain ⟨zr, hzr⟩ : ∃ z, z = clipI m x.re := ⟨_, rfl⟩
      obtain ⟨zi, hzi⟩ : ∃ z, z = clipI m x.im := ⟨_, rfl⟩
      rw [← hzr] at HCr
      rw [← hzi] at HCi
      have HGG := hide (show clipG m x = ⟨zr, zi⟩ by unfold clipG; rw [← hzr, ← hzi])
      rw [HGG.out] at HQE
      rw [← hQ] at ho
      rw [← hx] at c0 c1
      clear hQ HEE hx hzr hzi HGG
      go_upto_region 8 with fail
      obtain ⟨W1, hW1⟩ : ∃ y : World, y = wA.alloc (.cells #[.int .i64 x.re, .int .i64 x.im] 61) := ⟨_, rfl⟩
      rw [← hW1]
      have bx1 : Box W1 wA.heap.size 61 #[.int .i64 x.re, .int .i64 x.im] := by rw [hW1]; exact Box.made rfl
      have ho1 := ho.alloc (.cells #[.int .i64 x.re, .int .i64 x.im] 61)
      have hB1 := hB.alloc hBs (.cells #[.int .i64 x.re, .int .i64 x.im] 61)
      rw [← hW1] at ho1 hB1
      have hgA : g < wA.heap.size := ho.lt.2
      have hS1 : W1.cell? ⟨wA.heap.size, 0, none⟩ = some (.int .i64 x.re) ∧ W1.cell? ⟨wA.heap.size, 1, none⟩ = some (.int .i64 x.im) := ⟨bx1.at_ 0, bx1.at_ 1⟩
      have HPUT := hide (fun (W' : World) (h : W'.cell? ⟨wA.heap.size, 0, none⟩ = some (.int .i64 x.re) ∧ W'.cell? ⟨wA.heap.size, 1, none⟩ = some (.int .i64 x.im)) =>
        (⟨World.cell_put2 h.1 (by omega) _ _, World.cell_put2 h.2 (by omega) _ _⟩ : ((W'.setCell ⟨g, k * 2, none⟩ (.int .i64 zr)).setCell ⟨g, k * 2 + 1, none⟩ (.int .i64 zi)).cell? ⟨wA.heap.size, 0, none⟩ = some (.int .i64 x.re) ∧ ((W'.setCell ⟨g, k * 2, none⟩ (.int .i64 zr)).setCell ⟨g, k * 2 + 1, none⟩ (.int .i64 zi)).cell? ⟨wA.heap.size, 1, none⟩ = some (.int .i64 x.im)))
      clear hW1 ho hB hb c0 c1 bx1
      have HO1 := hide ho1
      have HB1 := hide hB1
      obtain ⟨z0, z1⟩ := ho1.cells hlt
      obtain ⟨f0, f1⟩ := ho1.frozen2 k
      have hlw := ho1.lt.2
      clear ho1 hB1
      refine wp_region_held_drew (S := fun w' => w'.cell? ⟨wA.heap.size, 0, none⟩ = some (.int .i64 x.re) ∧ w'.cell? ⟨wA.heap.size, 1, none⟩ = some (.int .i64 x.im)) (by kernel_rfl) hS1 (fun hHeld => ?_)
      refine wpAnyH_take (i := 0) (oi := ⟨some 34, _, _, _, _, _⟩) (v := ?_) rfl (by kernel_rfl) (by kernel_rfl) (by kernel_rfl) (fun _ _ _ h => h) (Or.inl ⟨by rfl, ?_⟩) (by assumption) ?_
      rotate_left
      · (intro w' hSw; (try dsimp only at hSw); go_simp <;> (with_reducible rfl))
      try simp only [Act.put, List.setIfInBounds_toArray, List.set_cons_zero, List.set_cons_succ]
      refine wpAnyH_take (i := 1) (oi := ⟨some 35, _, _, _, _, _⟩) (v := ?_) rfl (by kernel_rfl) (by kernel_rfl) (by kernel_rfl) (fun _ _ _ h => h) (Or.inl ⟨by rfl, ?_⟩) (by assumption) ?_
      rotate_left
      · (intro w' hSw; (try dsimp only at hSw); go_simp <;> (with_reducible rfl))
      try simp only [Act.put, List.setIfInBounds_toArray, List.set_cons_zero, List.set_cons_succ]
      refine wpAnyH_take (i := 2) (oi := ⟨some 36, _, _, _, _, _⟩) (v := ?_) rfl (by kernel_rfl) (by kernel_rfl) (by kernel_rfl) (fun _ _ _ h => h) (Or.inl ⟨by rfl, ?_⟩) (by assumption) ?_
      rotate_left
      · (intro w' hSw; (try dsimp only at hSw); go_simp <;> (with_reducible rfl))
      try simp only [Act.put, List.setIfInBounds_toArray, List.set_cons_zero, List.set_cons_succ]
      refine wpAnyH_take (i := 3) (oi := ⟨some 37, _, _, _, _, _⟩) (v := ?_) rfl (by kernel_rfl) (by kernel_rfl) (by kernel_rfl) (fun _ _ _ h => h) (Or.inl ⟨by rfl, ?_⟩) (by assumption) ?_
      rotate_left
      · (intro w' hSw; (try dsimp only at hSw); go_simp <;> (with_reducible rfl))
      try simp only [Act.put, List.setIfInBounds_toArray, List.set_cons_zero, List.set_cons_succ]
      refine wpAnyH_take (i := 4) (oi := ⟨some 38, _, _, _, _, _⟩) (v := ?_) rfl (by kernel_rfl) (by kernel_rfl) (by kernel_rfl) (fun _ _ _ h => h) (Or.inl ⟨by rfl, ?_⟩) (by assumption) ?_
      rotate_left
      · (intro w' hSw; (try dsimp only at hSw); go_simp <;> (with_reducible rfl))
      try simp only [Act.put, List.setIfInBounds_toArray, List.set_cons_zero, List.set_cons_succ]
      refine wpAnyH_take (i := 6) (oi := ⟨some 40, _, _, _, _, _⟩) (v := ?_) rfl (by kernel_rfl) (by kernel_rfl) (by kernel_rfl) (fun _ _ _ h => h) (Or.inl ⟨by rfl, ?_⟩) (by assumption) ?_
      rotate_left
      · (intro w' hSw; (try dsimp only at hSw); go_simp <;> (with_reducible rfl))
      try simp only [Act.put, List.setIfInBounds_toArray, List.set_cons_zero, List.set_cons_succ]
      refine wpAnyH_take (i := 7) (oi := ⟨some 41, _, _, _, _, _⟩) (v := ?_) rfl (by kernel_rfl) (by kernel_rfl) (by kernel_rfl) (fun _ _ _ h => h) (Or.inl ⟨by rfl, ?_⟩) (by assumption) ?_
      rotate_left
      · (intro w' hSw; (try dsimp only at hSw); go_simp <;> (with_reducible rfl))
      try simp only [Act.put, List.setIfInBounds_toArray, List.set_cons_zero, List.set_cons_succ]
      refine wpAnyH_take (i := 8) (oi := ⟨some 42, _, _, _, _, _⟩) (v := ?_) rfl (by kernel_rfl) (by kernel_rfl) (by kernel_rfl) (fun _ _ _ h => h) (Or.inl ⟨by rfl, ?_⟩) (by assumption) ?_
      rotate_left
      · (intro w' hSw; (try dsimp only at hSw); go_simp <;> (with_reducible rfl))
      try simp only [Act.put, List.setIfInBounds_toArray, List.set_cons_zero, List.set_cons_succ]
      refine wpAnyH_ready (rs := [5]) (by kernel_rfl) (by simp) ?_
      refine AllReadyH.cons (o := ⟨some 39, _, _, _, _, _⟩) rfl (fun K' hK => ?_) AllReadyH.nil
      go_simp
      go_at_call 61
      refine (HCr.out _).mono ?_
      rintro r w5 ⟨rfl, rfl⟩
      go_wp2_with fail
      refine hK.out _ _ hS1 (fun hHeld => ?_)
      clear hK K'
      try simp only [Act.put, List.setIfInBounds_toArray, List.set_cons_zero, List.set_cons_succ]
      refine wpAnyH_ready (rs := [9]) (by kernel_rfl) (by simp) ?_
      refine AllReadyH.cons (o := ⟨some 43, _, _, _, _, _⟩) rfl (fun K' hK => ?_) AllReadyH.nil
      go_simp
      go_at_call 61
      refine (HCi.out _).mono ?_
      rintro r w5 ⟨rfl, rfl⟩
      go_wp2_with fail
      refine hK.out _ _ hS1 (fun hHeld => ?_)
      clear hK K'
      try simp only [Act.put, List.setIfInBounds_toArray, List.set_cons_zero, List.set_cons_succ]
      refine wpAnyH_ready (rs := [10]) (by kernel_rfl) (by simp) ?_
      refine AllReadyH.cons (o := ⟨some 44, _, _, _, _, _⟩) rfl (fun K' hK => ?_) AllReadyH.nil
      go_simp
      refine hK.out _ _ hS1 (fun hHeld => ?_)
      clear hK K'
      try simp only [Act.put, List.setIfInBounds_toArray, List.set_cons_zero, List.set_cons_succ]
      refine wpAnyH_ready (rs := [11]) (by kernel_rfl) (by simp) ?_
      refine AllReadyH.cons (o := ⟨some 45, _, _, _, _, _⟩) rfl (fun K' hK => ?_) AllReadyH.nil
      go_simp
      refine hK.out _ _ hS1 (fun hHeld => ?_)
      clear hK K'
      try simp only [Act.put, List.setIfInBounds_toArray, List.set_cons_zero, List.set_cons_succ]
      refine wpAnyH_ready (rs := [12]) (by kernel_rfl) (by simp) ?_
      refine AllReadyH.cons (o := ⟨none, _, _, _, _, _⟩) rfl (fun K' hK => ?_) AllReadyH.nil
      go_simp
      have HOO := hide (HO1.out.put k ⟨zr, zi⟩)
      have HBB := hide (Below.put2at (o := k * 2) HB1.out HO1.out.lt.1 (.int .i64 zr) (.int .i64 zi))
      refine hK.out _ _ (HPUT.out _ hS1) (fun hHeld => ?_)
      clear hK K'
      try simp only [Act.put, List.setIfInBounds_toArray, List.set_cons_zero, List.set_cons_succ]
      clear z0 z1 f0 f1 hlw hS1 HO1 HB1 HPUT
      refine wpAnyH_done (by kernel_rfl) ?_ _
      go_wp2_with fail
      go_roundw
      case rel => exact ⟨k + 1, by omega, by go_num, HOO.out.congr HQE.out, HBB.out.drew⟩
      case measure => simp [Go.RowKit.intOf]; omega
    · obtain rfl : k = n := by omega
      go_wp2_with fail
      go_ret2
      exact ⟨_, rfl, .inl ⟨rfl, _, _, rfl, (ho.congr (G := fun j => clipG m (F j)) fun i hi => by simp only [if_pos hi]).gaus.weak (Nat.zero_le _)⟩, hB⟩
end Go.Proofs.Ytmcgmlhpbpjmgaa
/- ErrorOf of the code. -/
namespace Go.Proofs.Ytmcgmlhpbpjmgaa
open Go.RowKit
def sqG (x y : Gau) : Int := (x.re - y.re) * (x.re - y.re) + (x.im - y.im) * (x.im - y.im)
/-- The sum of the squares of the first n differences. -/
def errS (F G : Nat → Gau) : Nat → Int
  | 0 => 0
  | n + 1 => errS F G n + sqG (F n) (G n)
theorem sq_le {a M : Int} (h : -M ≤ a ∧ a ≤ M) : 0 ≤ a * a ∧ a * a ≤ M * M := by
  have h1 : 0 ≤ (M - a) * (M + a) := Int.mul_nonneg (by omega) (by omega)
  have h2 : 0 ≤ a * a := by
    rcases Int.le_total 0 a with h | h
    · exact Int.mul_nonneg h h
    · exact Int.mul_nonneg_of_nonpos_of_nonpos h h
  simp only [Int.sub_mul, Int.mul_add] at h1
  have h3 : M * a = a * M := Int.mul_comm _ _
  omega
theorem sqG_le {x y : Gau} {M N : Int} (hx : x.Within M) (hy : y.Within N) : (0 ≤ (x.re - y.re) * (x.re - y.re) ∧ (x.re - y.re) * (x.re - y.re) ≤ (M + N) * (M + N)) ∧ 0 ≤ (x.im - y.im) * (x.im - y.im) ∧ (x.im - y.im) * (x.im - y.im) ≤ (M + N) * (M + N) :=
  ⟨sq_le (by have := hx.re; have := hy.re; omega), sq_le (by have := hx.im; have := hy.im; omega)⟩
theorem errS_le {F G : Nat → Gau} : ∀ {n : Nat}, (∀ j, j < n → (F j).Within 10000) → (∀ j, j < n → (G j).Within 10000) → 0 ≤ errS F G n ∧ errS F G n ≤ 800000000 * (n : Int)
  | 0, _, _ => by show (0 : Int) ≤ 0 ∧ (0 : Int) ≤ _; simp
  | n + 1, h, k => by
    have h1 := errS_le (n := n) (fun j hj => h j (by omega)) (fun j hj => k j (by omega))
    have h2 := sqG_le (h n (by omega)) (k n (by omega))
    unfold errS sqG
    simp only [show ((10000 : Int) + 10000) * (10000 + 10000) = 400000000 from rfl] at h2
    omega
/-- The error of the error of two lists. -/
def errE (n m : Nat) (F G : Nat → Gau) : Int := firstE [unI (decide ((n : Int) ≤ 120)) 8, unI ((m : Int) == (n : Int)) 10, gausE 10000 F n, gausE 10000 G m]
theorem errE_zero {n m : Nat} {F G : Nat → Gau} (h : errE n m F G = 0) : n ≤ 120 ∧ m = n ∧ gausE 10000 F n = 0 ∧ gausE 10000 G n = 0 := by
  unfold errE at h
  obtain ⟨h1, h⟩ := firstE_nil h
  obtain ⟨h2, h⟩ := firstE_nil h
  obtain ⟨h3, h⟩ := firstE_nil h
  obtain ⟨h4, -⟩ := firstE_nil h
  have h1 := unI_zero (by decide) h1
  have h2 := unI_zero (by decide) h2
  simp at h1 h2
  have h2 : m = n := by omega
  subst h2
  exact ⟨by omega, rfl, h3, h4⟩
/-- What two lists come to. -/
def errV (n m : Nat) (F G : Nat → Gau) : Int := if errE n m F G = 0 then errS F G n else 0
set_option maxHeartbeats 2000000 in
set_option maxRecDepth 100000 in
theorem ErrorOf_any (A B : Option Addr) (n c m d : Nat) (F G : Nat → Gau) (w : World) (hn : n ≤ 100000) (hm : m ≤ 100000) (hI : GausAt w 0 A n F) (hJ : GausAt w 0 B m G) :
    Calls Try.prog 19 #[.slice A n c, .slice B m d] w fun e w' => e = .returned (.tuple #[.int .i64 (errV n m F G), .int .i64 (errE n m F G)]) ∧ Below w.heap.size w w' := by
  have HE := hide (show firstE [unI (decide ((n : Int) ≤ 120)) 8, unI ((m : Int) == (n : Int)) 10, gausE 10000 F n, gausE 10000 G m] = errE n m F G from rfl)
  have HR := hide (show errV n m F G = if errE n m F G = 0 then errS F G n else 0 from rfl)
  have HX := hide (entriesError_any A n c F w hn hI)
  have HY := hide (fun W (h : GausAt W 0 B m G) => entriesError_any B m d G W hm h)
  have HI := hide hI
  have HJ := hide hJ
  have HZ := hide (errE_zero (n := n) (m := m) (F := F) (G := G))
  clear hI hJ
  generalize errE n m F G = V at *
  generalize errV n m F G = R at *
  obtain ⟨s, hs⟩ : ∃ z, z = gausE 10000 F n := ⟨_, rfl⟩
  obtain ⟨t, ht⟩ : ∃ z, z = gausE 10000 G m := ⟨_, rfl⟩
  rw [← hs, ← ht] at HE
  rw [← hs] at HX
  rw [← ht] at HY
  clear hs ht
  go_enter Try.func19, Try.ntmps19
  go_wp2_with (go_at_call 43; refine (unless_any _ _ _).mono ?_; rintro e w' ⟨rfl, rfl⟩)
  refine HX.out.mono ?_
  rintro e w1 ⟨rfl, hb1⟩
  have HB1 := hide hb1
  clear hb1 HX
  go_wp2_with fail
  refine (HY.out _ (HJ.out.below HB1.out)).mono ?_
  rintro e w2 ⟨rfl, hb2⟩
  have HB2 := hide (HB1.out.trans (hb2.mono HB1.out.size))
  clear hb2 HB1 HY
  go_wp2_with fail
  refine (firstError_laid [unI (decide ((n : Int) ≤ 120)) 8, unI ((m : Int) == (n : Int)) 10, s, t] 4 _ _ rfl (by decide)).mono ?_
  rintro e w3 ⟨rfl, hw3⟩
  rw [HE.out]
  have HB3 := hide (show Below w.heap.size w w3 by rw [← hw3]; exact HB2.out.alloc HB2.out.size _)
  clear hw3 HB2
  by_cases hv : V = 0
  case neg =>
    have tv : (V != 0) = true := by simpa using hv
    have hR := HR.out
    rw [if_neg hv] at hR
    subst hR
    clear HZ HE HR hv
    go_wp2_with fail
    go_ret2
    exact ⟨rfl, HB3.out⟩
  obtain ⟨hn120, rfl, h3, h4⟩ := HZ.out hv
  have hR := hide (HR.out.trans (if_pos hv))
  have HFW := hide (gausE_within h3)
  have HGW := hide (gausE_within h4)
  subst hv
  clear HZ HE HR h3 h4
  go_wp2_with fail
  go_loopw [7, 33] (fun v i wr => ∃ k : Nat, k ≤ m ∧ i = .int .i64 (k : Int) ∧ v = .int .i64 (errS F G k) ∧ Below w.heap.size w wr) (fun _ i _ => m - (Go.RowKit.intOf i).toNat)
  case atStart => exact ⟨0, Nat.zero_le _, rfl, rfl, HB3.out⟩
  case round =>
    clear HB3
    obtain ⟨k, hk, rfl, rfl, hB⟩ := hrel
    obtain ⟨wA, rfl⟩ : ∃ x : World, x = wr := ⟨_, rfl⟩
    have hBs := hB.size
    by_cases hlt : k < m
    · have hltz : (k : Int) < (m : Int) := by omega
      obtain ⟨b, o, rfl, -, hb, c0, c1⟩ := (HI.out.below hB) k hlt
      obtain ⟨b', o', rfl, -, hb', d0, d1⟩ := HJ.out k hlt
      have hS := errS_le (n := k) (fun j hj => HFW.out j (by omega)) (fun j hj => HGW.out j (by omega))
      have hsq := sqG_le (HFW.out k hlt) (HGW.out k hlt)
      have hxw := HFW.out k hlt
      have hyw := HGW.out k hlt
      have HN := hide (show errS F G (k + 1) = errS F G k + (((F k).re - (G k).re) * ((F k).re - (G k).re) + ((F k).im - (G k).im) * ((F k).im - (G k).im)) from rfl)
      obtain ⟨x, hx⟩ : ∃ z, z = F k := ⟨_, rfl⟩
      obtain ⟨y, hy⟩ : ∃ z, z = G k := ⟨_, rfl⟩
      obtain ⟨S, hS'⟩ : ∃ z, z = errS F G k := ⟨_, rfl⟩
      rw [← hS'] at hS HN ⊢
      rw [← hx, ← hy] at hsq HN
      rw [← hx] at hxw c0 c1
      rw [← hy] at hyw d0 d1
      obtain ⟨hx1, hx2⟩ := hxw
      obtain ⟨hy1, hy2⟩ := hyw
      clear hx hy hS'
      simp only [show ((10000 : Int) + 10000) * (10000 + 10000) = 400000000 from rfl] at hsq
      have q1 : IntKind.i64.wrap (x.re - y.re) = x.re - y.re := IntWalk.i64_in _ (by omega)
      have q2 : IntKind.i64.wrap (x.im - y.im) = x.im - y.im := IntWalk.i64_in _ (by omega)
      have q3 : IntKind.i64.wrap ((x.re - y.re) * (x.re - y.re)) = (x.re - y.re) * (x.re - y.re) := IntWalk.i64_in _ (by omega)
      have q4 : IntKind.i64.wrap ((x.im - y.im) * (x.im - y.im)) = (x.im - y.im) * (x.im - y.im) := IntWalk.i64_in _ (by omega)
      have q5 : IntKind.i64.wrap ((x.re - y.re) * (x.re - y.re) + (x.im - y.im) * (x.im - y.im)) = (x.re - y.re) * (x.re - y.re) + (x.im - y.im) * (x.im - y.im) := IntWalk.i64_in _ (by omega)
      have q6 : IntKind.i64.wrap (S + ((x.re - y.re) * (x.re - y.re) + (x.im - y.im) * (x.im - y.im))) = S + ((x.re - y.re) * (x.re - y.re) + (x.im - y.im) * (x.im - y.im)) := IntWalk.i64_in _ (by omega)
      go_upto_region 8 with fail
      obtain ⟨W1, hW1⟩ : ∃ y : World, y = wA.alloc (.cells #[.int .i64 x.re, .int .i64 x.im] 61) := ⟨_, rfl⟩
      rw [← hW1]
      have bx1 : Box W1 wA.heap.size 61 #[.int .i64 x.re, .int .i64 x.im] := by rw [hW1]; exact Box.made rfl
      have hAW : Below wA.heap.size wA W1 := by rw [hW1]; (repeat (first | (with_reducible exact Below.refl _ _) | (with_reducible refine Go.below_drewN ?_ _) | (with_reducible refine Below.drew ?_) | (with_reducible refine Below.alloc ?_ (by first | exact Nat.le_refl _ | (simp; done) | (simp; omega) | omega) _) | (with_reducible refine Below.setCell ?_ (by first | exact Nat.le_refl _ | (simp; done) | (simp; omega) | omega) _)))
      have HB1 := hide (show Below w.heap.size w W1 from hB.trans (hAW.mono hBs))
      replace d0 := (HB1.out.cell (p := ⟨b', _, none⟩) hb').trans d0
      replace d1 := (HB1.out.cell (p := ⟨b', _, none⟩) hb').trans d1
      obtain ⟨y0, y1, g0, g1, hl'⟩ := bx1.cells2
      clear hW1 hB hb hb' c0 c1 bx1 hAW hBs hS hsq hx1 hx2 hy1 hy2
      go_quiet (fail)
      clear y0 y1 g0 g1 d0 d1
      go_wp2_with fail
      go_roundw
      case rel => exact ⟨k + 1, by omega, by go_num, by rw [HN.out], Go.below_drewN HB1.out _⟩
      case measure => simp [Go.RowKit.intOf]; omega
    · obtain rfl : k = m := by omega
      have hltz : ¬ ((k : Int) < (k : Int)) := by omega
      have HB := hide hB
      clear hB
      go_wp2_with fail
      go_ret2
      exact ⟨by rw [hR.out]; rfl, HB.out⟩
end Go.Proofs.Ytmcgmlhpbpjmgaa
/- The reference on whole complex numbers: IsEntry, EntriesErr, CopyGausses, Gausses, GSub, GNorm, ErrorOf, Clipped. -/
namespace Go.Proofs.Ytmcgmlhpbpjmgaa
open Go.RowKit
theorem cellB {W W' : World} {b o : Nat} {v : Value} (hb : Below W.heap.size W W') (h : W.cell? ⟨b, o, none⟩ = some v) : W'.cell? ⟨b, o, none⟩ = some v :=
  (hb.cell (p := ⟨b, o, none⟩) (World.block_lt_of_cell? W _ h)).trans h
set_option maxHeartbeats 2000000 in
theorem isEntryR_any (x : Gau) (M : Int) (w : World) (hM : 0 ≤ M ∧ M ≤ 9000000000000000000) :
    Calls Try.prog 62 #[.agg #[.int .i64 x.re, .int .i64 x.im], .int .i64 M] w fun e w' => e = .returned (.bool (x.isIn M)) ∧ Below w.heap.size w w' := by
  have q1 : IntKind.i64.wrap (-M) = -M := IntWalk.i64_in _ (by omega)
  have HI := hide (show x.isIn M = (withinB x.re (-M) M && withinB x.im (-M) M) from rfl)
  generalize x.isIn M = v at *
  clear hM
  cases ea : withinB x.re (-M) M
  · have HV := hide (show v = false from by rw [HI.out, ea]; rfl)
    clear HI
    go_enter Try.func62, Try.ntmps62
    go_wp2_with (go_at_call 22; refine (within_any _ _ _ _).mono ?_; rintro e w' ⟨rfl, rfl⟩; rw [ea])
    go_ret
    exact ⟨by rw [HV.out]; rfl, by (repeat (first | (with_reducible exact Below.refl _ _) | (with_reducible refine Go.below_drewN ?_ _) | (with_reducible refine Below.drew ?_) | (with_reducible refine Below.alloc ?_ (by first | exact Nat.le_refl _ | (simp; done) | (simp; omega) | omega) _) | (with_reducible refine Below.setCell ?_ (by first | exact Nat.le_refl _ | (simp; done) | (simp; omega) | omega) _)))⟩
  have HV := hide (show v = withinB x.im (-M) M from by rw [HI.out, ea]; rfl)
  clear HI
  go_enter Try.func62, Try.ntmps62
  go_wp2_with (go_at_call 22; refine (within_any _ _ _ _).mono ?_; rintro e w' ⟨rfl, rfl⟩; first | rw [ea] | skip)
  go_ret
  exact ⟨by rw [HV.out]; rfl, by (repeat (first | (with_reducible exact Below.refl _ _) | (with_reducible refine Go.below_drewN ?_ _) | (with_reducible refine Below.drew ?_) | (with_reducible refine Below.alloc ?_ (by first | exact Nat.le_refl _ | (simp; done) | (simp; omega) | omega) _) | (with_reducible refine Below.setCell ?_ (by first | exact Nat.le_refl _ | (simp; done) | (simp; omega) | omega) _)))⟩
set_option maxHeartbeats 2000000 in
set_option maxRecDepth 100000 in
theorem entriesErrR_any (A : Option Addr) (n c : Nat) (F : Nat → Gau) (w : World) (hn : n ≤ 1000000) (hI : GausAt w 0 A n F) :
    Calls Try.prog 20 #[.slice A n c] w fun e w' => e = .returned (.int .i64 (gausE 10000 F n)) ∧ Below w.heap.size w w' := by
  have HI := hide hI
  have HX := hide (fun j W => isEntryR_any (F j) 10000 W (by decide))
  clear hI
  go_enter Try.func20, Try.ntmps20
  go_wp2_with fail
  go_loopw [3] (fun i wr => ∃ k : Nat, k ≤ n ∧ i = .int .i64 (k : Int) ∧ Hid (badE (fun j => (F j).err 10000) k = 0) ∧ Below w.heap.size w wr) (fun i _ => n - (Go.RowKit.intOf i).toNat)
  case atStart => exact ⟨0, Nat.zero_le _, rfl, hide rfl, Below.refl _ _⟩
  case round =>
    obtain ⟨k, hk, rfl, HZ, hB⟩ := hrel
    obtain ⟨wA, rfl⟩ : ∃ x : World, x = wr := ⟨_, rfl⟩
    by_cases hlt : k < n
    · have hltz : (k : Int) < (n : Int) := by omega
      obtain ⟨b, o, rfl, -, hb, c0, c1⟩ := (HI.out.below hB) k hlt
      have HXk := hide (HX.out k)
      have HG := hide (badE_succ HZ.out)
      have HQ := hide (fun h => badE_at (g := fun j => (F j).err 10000) HZ.out h n hlt)
      have HV := hide (show (F k).err 10000 = unI ((F k).isIn 10000) 2 from rfl)
      have HB := hide hB
      clear hB
      cases hv : (F k).isIn 10000
      · rw [hv] at HXk HV
        have HE := hide (show gausE 10000 F n = 2 from (HQ.out (by show (F k).err 10000 ≠ 0; rw [HV.out]; decide)).trans HV.out)
        clear HQ HG HV hv HZ
        generalize F k = x at *
        go_wp2_with fail
        refine (HXk.out _).mono ?_
        rintro e w2 ⟨rfl, hb2⟩
        have HB2 := hide (HB.out.trans (hb2.mono HB.out.size))
        clear hb2 c0 c1
        go_wp2_with fail
        go_ret
        exact ⟨by rw [HE.out]; rfl, HB2.out⟩
      · rw [hv] at HXk HV
        have HE := hide (show badE (fun j => (F j).err 10000) (k + 1) = 0 from HG.out.trans HV.out)
        clear HQ HG HV hv HZ
        generalize F k = x at *
        go_wp2_with fail
        refine (HXk.out _).mono ?_
        rintro e w2 ⟨rfl, hb2⟩
        have HB2 := hide (HB.out.trans (hb2.mono HB.out.size))
        clear hb2 c0 c1
        go_wp2_with fail
        go_roundw
        case rel => exact ⟨k + 1, by omega, by go_num, HE, HB2.out⟩
        case measure => simp [Go.RowKit.intOf]; omega
    · obtain rfl : k = n := by omega
      have hltz : ¬ ((k : Int) < (k : Int)) := by omega
      have HE := hide (show gausE 10000 F k = 0 from HZ.out)
      have HB := hide hB
      clear HZ hB
      go_wp2_with fail
      go_ret
      exact ⟨by rw [HE.out]; rfl, HB.out⟩
set_option maxHeartbeats 1000000 in
theorem copyGausses_own (A : Option Addr) (n c : Nat) (F : Nat → Gau) (w : World) (hn : n ≤ 10000000) (hI : GausAt w 0 A n F) :
    Calls Try.prog 18 #[.slice A n c] w fun e w' => ∃ v, e = .returned v ∧ OwnGaus w' w.heap.size v n F ∧ Below w.heap.size w w' := by
  have HI := hide (hI.alloc (.cells #[] 61))
  have HE := hide (OwnGaus.empty w _ rfl F)
  clear hI
  go_enter Try.func18, Try.ntmps18
  go_wp2_with (at_builtin; refine wpList_append_gaus _ rfl (.tmp 3) (.tmp 4) rfl w.heap.size 0 (.slice (some ⟨w.heap.size, 0, none⟩) 0 0) 0 F rfl HE.out A n c F rfl HI.out (by omega) (by simp) ?_; intro v' w' h1 hb1)
  go_ret
  have hB : Below w.heap.size w w' := ((Below.refl _ _).alloc (Nat.le_refl _) _).trans hb1
  rw [Nat.zero_add] at h1
  exact ⟨_, rfl, h1.congr fun j _ => by simp [catG], hB⟩
set_option maxHeartbeats 2000000 in
set_option maxRecDepth 100000 in
/-- Two lists that are alike. -/
theorem gausses_alike (A B : Option Addr) (n c d : Nat) (F G : Nat → Gau) (w : World) (hn : n ≤ 1000000) (hI : GausAt w 0 A n F) (hJ : GausAt w 0 B n G) (he : ∀ j, j < n → F j = G j) :
    Calls Try.prog 23 #[.slice A n c, .slice B n d] w fun e w' => e = .returned (.bool true) ∧ Below w.heap.size w w' := by
  have HI := hide hI
  have HJ := hide (hJ.congr fun j hj => (he j hj).symm)
  have t1 : ((n : Int) != (n : Int)) = false := by simp
  clear hI hJ he
  go_enter Try.func23, Try.ntmps23
  go_wp2_with fail
  go_loopw [5] (fun i wr => ∃ k : Nat, k ≤ n ∧ i = .int .i64 (k : Int) ∧ Below w.heap.size w wr) (fun i _ => n - (Go.RowKit.intOf i).toNat)
  case atStart => exact ⟨0, Nat.zero_le _, rfl, Below.refl _ _⟩
  case round =>
    obtain ⟨k, hk, rfl, hB⟩ := hrel
    obtain ⟨wA, rfl⟩ : ∃ x : World, x = wr := ⟨_, rfl⟩
    by_cases hlt : k < n
    · have hltz : (k : Int) < (n : Int) := by omega
      obtain ⟨b, o, rfl, -, -, c0, c1⟩ := (HI.out.below hB) k hlt
      obtain ⟨b', o', rfl, -, -, d0, d1⟩ := (HJ.out.below hB) k hlt
      generalize F k = x at *
      have HB := hide hB
      clear hB
      go_wp2_with fail
      go_quiet (fail)
      go_wp2_with fail
      go_roundw
      case rel => exact ⟨k + 1, by omega, by go_num, Go.below_drewN HB.out _⟩
      case measure => simp [Go.RowKit.intOf]; omega
    · obtain rfl : k = n := by omega
      have hltz : ¬ ((k : Int) < (k : Int)) := by omega
      have HB := hide hB
      clear hB
      go_wp2_with fail
      go_ret
      exact ⟨rfl, HB.out⟩
set_option maxHeartbeats 2000000 in
set_option maxRecDepth 100000 in
theorem gsub_any (x y : Gau) (w : World) (h1 : -9223372036854775808 ≤ x.re - y.re ∧ x.re - y.re ≤ 9223372036854775807) (h2 : -9223372036854775808 ≤ x.im - y.im ∧ x.im - y.im ≤ 9223372036854775807) :
    Calls Try.prog 64 #[.agg #[.int .i64 x.re, .int .i64 x.im], .agg #[.int .i64 y.re, .int .i64 y.im]] w fun e w' => e = .returned (.agg #[.int .i64 (x.re - y.re), .int .i64 (x.im - y.im)]) ∧ Below w.heap.size w w' := by
  have q1 : IntKind.i64.wrap (x.re - y.re) = x.re - y.re := IntWalk.i64_in _ (by omega)
  have q2 : IntKind.i64.wrap (x.im - y.im) = x.im - y.im := IntWalk.i64_in _ (by omega)
  clear h1 h2
  go_enter Try.func64, Try.ntmps64
  go_wp2_with fail
  have hb : Box (((w.alloc (.cells #[.int .i64 x.re, .int .i64 x.im] 61)).alloc (.cells #[.int .i64 y.re, .int .i64 y.im] 61)).alloc (.cells #[.int .i64 (x.re - y.re), .int .i64 (x.im - y.im)] 61)) (w.heap.size + 1 + 1) 61 #[.int .i64 (x.re - y.re), .int .i64 (x.im - y.im)] := Box.made (by simp)
  obtain ⟨y0, y1, -⟩ := hb.cells2
  refine bodyPost_ret (v := .agg #[.int .i64 (x.re - y.re), .int .i64 (x.im - y.im)]) ?_ rfl ⟨rfl, by (repeat (first | (with_reducible exact Below.refl _ _) | (with_reducible refine Go.below_drewN ?_ _) | (with_reducible refine Below.drew ?_) | (with_reducible refine Below.alloc ?_ (by first | exact Nat.le_refl _ | (simp; done) | (simp; omega) | omega) _) | (with_reducible refine Below.setCell ?_ (by first | exact Nat.le_refl _ | (simp; done) | (simp; omega) | omega) _)))⟩
  simp [results, Try.results64, go_sem, y0, y1]
set_option maxHeartbeats 2000000 in
theorem gnorm_any (a b : Int) (w : World) (h1 : 0 ≤ a * a ∧ a * a ≤ 4611686018427387903) (h2 : 0 ≤ b * b ∧ b * b ≤ 4611686018427387903) :
    Calls Try.prog 63 #[.agg #[.int .i64 a, .int .i64 b]] w fun e w' => e = .returned (.int .i64 (a * a + b * b)) ∧ Below w.heap.size w w' := by
  have q1 : IntKind.i64.wrap (a * a) = a * a := IntWalk.i64_in _ (by omega)
  have q2 : IntKind.i64.wrap (b * b) = b * b := IntWalk.i64_in _ (by omega)
  have q3 : IntKind.i64.wrap (a * a + b * b) = a * a + b * b := IntWalk.i64_in _ (by omega)
  clear h1 h2
  go_enter Try.func63, Try.ntmps63
  go_wp2_with fail
  go_ret
  exact ⟨rfl, by (repeat (first | (with_reducible exact Below.refl _ _) | (with_reducible refine Go.below_drewN ?_ _) | (with_reducible refine Below.drew ?_) | (with_reducible refine Below.alloc ?_ (by first | exact Nat.le_refl _ | (simp; done) | (simp; omega) | omega) _) | (with_reducible refine Below.setCell ?_ (by first | exact Nat.le_refl _ | (simp; done) | (simp; omega) | omega) _)))⟩
end Go.Proofs.Ytmcgmlhpbpjmgaa
/- The reference: ErrorOf and Clipped. -/
namespace Go.Proofs.Ytmcgmlhpbpjmgaa
open Go.RowKit
set_option maxHeartbeats 2000000 in
set_option maxRecDepth 100000 in
theorem errorOfR_any (A B : Option Addr) (n c d : Nat) (F G : Nat → Gau) (w : World) (hn : n ≤ 120) (hF : ∀ j, j < n → (F j).Within 10000) (hG : ∀ j, j < n → (G j).Within 10000) (hI : GausAt w 0 A n F) (hJ : GausAt w 0 B n G) :
    Calls Try.prog 21 #[.slice A n c, .slice B n d] w fun e w' => e = .returned (.int .i64 (errS F G n)) ∧ Below w.heap.size w w' := by
  have HI := hide hI
  have HJ := hide hJ
  have HFW := hide hF
  have HGW := hide hG
  clear hI hJ hF hG
  go_enter Try.func21, Try.ntmps21
  go_wp2_with fail
  go_loopw [5, 6] (fun v i wr => ∃ k : Nat, k ≤ n ∧ i = .int .i64 (k : Int) ∧ v = .int .i64 (errS F G k) ∧ Below w.heap.size w wr) (fun _ i _ => n - (Go.RowKit.intOf i).toNat)
  case atStart => exact ⟨0, Nat.zero_le _, rfl, rfl, Below.refl _ _⟩
  case round =>
    obtain ⟨k, hk, rfl, rfl, hB⟩ := hrel
    obtain ⟨wA, rfl⟩ : ∃ x : World, x = wr := ⟨_, rfl⟩
    have hBs := hB.size
    by_cases hlt : k < n
    · have hltz : (k : Int) < (n : Int) := by omega
      obtain ⟨b, o, rfl, -, -, c0, c1⟩ := (HI.out.below hB) k hlt
      obtain ⟨b', o', rfl, -, -, d0, d1⟩ := (HJ.out.below hB) k hlt
      have hS := errS_le (n := k) (fun j hj => HFW.out j (by omega)) (fun j hj => HGW.out j (by omega))
      have hsq := sqG_le (HFW.out k hlt) (HGW.out k hlt)
      have hxw := HFW.out k hlt
      have hyw := HGW.out k hlt
      have HN := hide (show errS F G (k + 1) = errS F G k + (((F k).re - (G k).re) * ((F k).re - (G k).re) + ((F k).im - (G k).im) * ((F k).im - (G k).im)) from rfl)
      obtain ⟨x, hx⟩ : ∃ z, z = F k := ⟨_, rfl⟩
      obtain ⟨y, hy⟩ : ∃ z, z = G k := ⟨_, rfl⟩
      obtain ⟨S, hS'⟩ : ∃ z, z = errS F G k := ⟨_, rfl⟩
      rw [← hS'] at hS HN ⊢
      rw [← hx, ← hy] at hsq HN
      rw [← hx] at hxw c0 c1
      rw [← hy] at hyw d0 d1
      obtain ⟨hx1, hx2⟩ := hxw
      obtain ⟨hy1, hy2⟩ := hyw
      clear hx hy hS'
      simp only [show ((10000 : Int) + 10000) * (10000 + 10000) = 400000000 from rfl] at hsq
      have HGS := hide (fun W => gsub_any x y W (by omega) (by omega))
      have HGN := hide (fun W => gnorm_any (x.re - y.re) (x.im - y.im) W (by omega) (by omega))
      have q6 : IntKind.i64.wrap (S + ((x.re - y.re) * (x.re - y.re) + (x.im - y.im) * (x.im - y.im))) = S + ((x.re - y.re) * (x.re - y.re) + (x.im - y.im) * (x.im - y.im)) := IntWalk.i64_in _ (by omega)
      have HB := hide hB
      have hS1 : wA.cell? ⟨b, o + k * 2, none⟩ = some (.int .i64 x.re) ∧ wA.cell? ⟨b, o + k * 2 + 1, none⟩ = some (.int .i64 x.im) ∧ wA.cell? ⟨b', o' + k * 2, none⟩ = some (.int .i64 y.re) ∧ wA.cell? ⟨b', o' + k * 2 + 1, none⟩ = some (.int .i64 y.im) := ⟨c0, c1, d0, d1⟩
      have HS := hide (fun W' (h : Below wA.heap.size wA W') => (⟨cellB h c0, cellB h c1, cellB h d0, cellB h d1⟩ : W'.cell? ⟨b, o + k * 2, none⟩ = some (.int .i64 x.re) ∧ W'.cell? ⟨b, o + k * 2 + 1, none⟩ = some (.int .i64 x.im) ∧ W'.cell? ⟨b', o' + k * 2, none⟩ = some (.int .i64 y.re) ∧ W'.cell? ⟨b', o' + k * 2 + 1, none⟩ = some (.int .i64 y.im)))
      clear hB hS hsq hx1 hx2 hy1 hy2 c0 c1 d0 d1
      go_upto_region 5 with fail
      refine wp_region_held_drew (S := fun w' => w'.cell? ⟨b, o + k * 2, none⟩ = some (.int .i64 x.re) ∧ w'.cell? ⟨b, o + k * 2 + 1, none⟩ = some (.int .i64 x.im) ∧ w'.cell? ⟨b', o' + k * 2, none⟩ = some (.int .i64 y.re) ∧ w'.cell? ⟨b', o' + k * 2 + 1, none⟩ = some (.int .i64 y.im)) (by kernel_rfl) hS1 (fun hHeld => ?_)
      clear hS1
      refine wpAnyH_take (i := 0) (oi := ⟨some 13, _, _, _, _, _⟩) (v := ?_) rfl (by kernel_rfl) (by kernel_rfl) (by kernel_rfl) (fun _ _ _ h => h) (Or.inl ⟨by rfl, ?_⟩) (by assumption) ?_
      rotate_left
      · (intro w' hSw; (try dsimp only at hSw); go_simp <;> (with_reducible rfl))
      try simp only [Act.put, List.setIfInBounds_toArray, List.set_cons_zero, List.set_cons_succ]
      refine wpAnyH_take (i := 1) (oi := ⟨some 14, _, _, _, _, _⟩) (v := ?_) rfl (by kernel_rfl) (by kernel_rfl) (by kernel_rfl) (fun _ _ _ h => h) (Or.inl ⟨by rfl, ?_⟩) (by assumption) ?_
      rotate_left
      · (intro w' hSw; (try dsimp only at hSw); go_simp <;> (with_reducible rfl))
      try simp only [Act.put, List.setIfInBounds_toArray, List.set_cons_zero, List.set_cons_succ]
      refine wpAnyH_take (i := 2) (oi := ⟨some 15, _, _, _, _, _⟩) (v := ?_) rfl (by kernel_rfl) (by kernel_rfl) (by kernel_rfl) (fun _ _ _ h => h) (Or.inl ⟨by rfl, ?_⟩) (by assumption) ?_
      rotate_left
      · (intro w' hSw; (try dsimp only at hSw); go_simp <;> (with_reducible rfl))
      try simp only [Act.put, List.setIfInBounds_toArray, List.set_cons_zero, List.set_cons_succ]
      refine wpAnyH_take (i := 3) (oi := ⟨some 16, _, _, _, _, _⟩) (v := ?_) rfl (by kernel_rfl) (by kernel_rfl) (by kernel_rfl) (fun _ _ _ h => h) (Or.inl ⟨by rfl, ?_⟩) (by assumption) ?_
      rotate_left
      · (intro w' hSw; (try dsimp only at hSw); go_simp <;> (with_reducible rfl))
      try simp only [Act.put, List.setIfInBounds_toArray, List.set_cons_zero, List.set_cons_succ]
      refine wpAnyH_take (i := 4) (oi := ⟨some 17, _, _, _, _, _⟩) (v := ?_) rfl (by kernel_rfl) (by kernel_rfl) (by kernel_rfl) (fun _ _ _ h => h) (Or.inl ⟨by rfl, ?_⟩) (by assumption) ?_
      rotate_left
      · (intro w' hSw; (try dsimp only at hSw); go_simp <;> (with_reducible rfl))
      try simp only [Act.put, List.setIfInBounds_toArray, List.set_cons_zero, List.set_cons_succ]
      refine wpAnyH_take (i := 5) (oi := ⟨some 18, _, _, _, _, _⟩) (v := ?_) rfl (by kernel_rfl) (by kernel_rfl) (by kernel_rfl) (fun _ _ _ h => h) (Or.inl ⟨by rfl, ?_⟩) (by assumption) ?_
      rotate_left
      · (intro w' hSw; (try dsimp only at hSw); go_simp <;> (with_reducible rfl))
      try simp only [Act.put, List.setIfInBounds_toArray, List.set_cons_zero, List.set_cons_succ]
      refine wpAnyH_take (i := 6) (oi := ⟨some 19, _, _, _, _, _⟩) (v := ?_) rfl (by kernel_rfl) (by kernel_rfl) (by kernel_rfl) (fun _ _ _ h => h) (Or.inl ⟨by rfl, ?_⟩) (by assumption) ?_
      rotate_left
      · (intro w' hSw; (try dsimp only at hSw); go_simp <;> (with_reducible rfl))
      try simp only [Act.put, List.setIfInBounds_toArray, List.set_cons_zero, List.set_cons_succ]
      refine wpAnyH_take (i := 7) (oi := ⟨some 20, _, _, _, _, _⟩) (v := ?_) rfl (by kernel_rfl) (by kernel_rfl) (by kernel_rfl) (fun _ _ _ h => h) (Or.inl ⟨by rfl, ?_⟩) (by assumption) ?_
      rotate_left
      · (intro w' hSw; (try dsimp only at hSw); go_simp <;> (with_reducible rfl))
      try simp only [Act.put, List.setIfInBounds_toArray, List.set_cons_zero, List.set_cons_succ]
      refine wpAnyH_take (i := 8) (oi := ⟨some 21, _, _, _, _, _⟩) (v := ?_) rfl (by kernel_rfl) (by kernel_rfl) (by kernel_rfl) (fun _ _ _ h => h) (Or.inl ⟨by rfl, ?_⟩) (by assumption) ?_
      rotate_left
      · (intro w' hSw; (try dsimp only at hSw); go_simp <;> (with_reducible rfl))
      try simp only [Act.put, List.setIfInBounds_toArray, List.set_cons_zero, List.set_cons_succ]
      refine wpAnyH_ready (rs := [9]) (by kernel_rfl) (by simp) ?_
      refine AllReadyH.cons (o := ⟨some 22, _, _, _, _, _⟩) rfl (fun K' hK => ?_) AllReadyH.nil
      go_simp
      go_at_call 64
      refine (HGS.out _).mono ?_
      rintro r w2 ⟨rfl, hb2⟩
      have hc2 : Below wA.heap.size wA w2 := by first | exact hb2 | exact below_of_drew hb2 | exact below_of_drew (below_of_drew hb2)
      have hS2 := HS.out _ hc2
      go_wp2_with fail
      refine hK.out _ _ hS2 (fun hHeld => ?_)
      clear hK K'
      try simp only [Act.put, List.setIfInBounds_toArray, List.set_cons_zero, List.set_cons_succ]
      refine wpAnyH_ready (rs := [10]) (by kernel_rfl) (by simp) ?_
      refine AllReadyH.cons (o := ⟨some 23, _, _, _, _, _⟩) rfl (fun K' hK => ?_) AllReadyH.nil
      go_simp
      go_at_call 63
      refine (HGN.out _).mono ?_
      rintro r w3 ⟨rfl, hb3⟩
      have hc3 : Below wA.heap.size wA w3 := by first | exact hc2.trans (hb3.mono hc2.size) | exact hc2.trans ((below_of_drew hb3).mono hc2.size)
      have hS3 := HS.out _ hc3
      clear hb2 hc2 hS2 hb3
      go_wp2_with fail
      refine hK.out _ _ hS3 (fun hHeld => ?_)
      clear hK K'
      try simp only [Act.put, List.setIfInBounds_toArray, List.set_cons_zero, List.set_cons_succ]
      refine wpAnyH_take (i := 11) (oi := ⟨some 24, _, _, _, _, _⟩) (v := ?_) rfl (by kernel_rfl) (by kernel_rfl) (by kernel_rfl) (fun _ _ _ h => h) (Or.inl ⟨by rfl, ?_⟩) (by assumption) ?_
      rotate_left
      · (intro w' hSw; (try dsimp only at hSw); go_simp <;> (with_reducible rfl))
      try simp only [Act.put, List.setIfInBounds_toArray, List.set_cons_zero, List.set_cons_succ]
      refine wpAnyH_ready (rs := [12]) (by kernel_rfl) (by simp) ?_
      refine AllReadyH.cons (o := ⟨some 5, _, _, _, _, _⟩) rfl (fun K' hK => ?_) AllReadyH.nil
      go_simp
      refine hK.out _ _ hS3 (fun hHeld => ?_)
      clear hK K'
      try simp only [Act.put, List.setIfInBounds_toArray, List.set_cons_zero, List.set_cons_succ]
      refine wpAnyH_done (by kernel_rfl) ?_ _
      go_wp2_with fail
      go_roundw
      case rel => exact ⟨k + 1, by omega, by go_num, by rw [HN.out], HB.out.trans (hc3.mono hBs)⟩
      case measure => simp [Go.RowKit.intOf]; omega
    · obtain rfl : k = n := by omega
      have hltz : ¬ ((k : Int) < (k : Int)) := by omega
      have HB := hide hB
      clear hB
      go_wp2_with fail
      go_ret
      exact ⟨rfl, HB.out⟩
/-- As the reference clips: the arguments of min are exchanged. -/
theorem clip_min (m p : Int) : max (-m) (min m p) = clipI m p := by unfold clipI; omega
set_option maxHeartbeats 2000000 in
set_option maxRecDepth 100000 in
theorem clippedR_any (A : Option Addr) (n c : Nat) (F : Nat → Gau) (m : Int) (w : World) (hn : n ≤ 1000000) (hm : 0 ≤ m ∧ m ≤ 10000) (hI : GausAt w 0 A n F) :
    Calls Try.prog 24 #[.slice A n c, .int .i64 m] w fun e w' => ∃ v, e = .returned v ∧ OwnGaus w' w.heap.size v n (fun j => clipG m (F j)) ∧ Below w.heap.size w w' := by
  have HI := hide hI
  have q1 : IntKind.i64.wrap (-m) = -m := IntWalk.i64_in _ (by omega)
  clear hI hm
  go_enter Try.func24, Try.ntmps24
  go_wp2_with fail
  go_loopw [5, 6] (fun v i wr => ∃ k : Nat, k ≤ n ∧ i = .int .i64 (k : Int) ∧ OwnGaus wr w.heap.size v k (fun j => clipG m (F j)) ∧ Below w.heap.size w wr) (fun _ i _ => n - (Go.RowKit.intOf i).toNat)
  case atStart => exact ⟨0, Nat.zero_le _, rfl, ownGaus_nil _ _ _, Below.refl _ _⟩
  case round =>
    obtain ⟨k, hk, rfl, ho, hB⟩ := hrel
    obtain ⟨wA, rfl⟩ : ∃ x : World, x = wr := ⟨_, rfl⟩
    obtain ⟨O, o9, rfl, ho9, hO⟩ := ownGaus_form ho
    have hBs := hB.size
    by_cases hlt : k < n
    · have hltz : (k : Int) < (n : Int) := by omega
      obtain ⟨b, o, rfl, -, hb, c0, c1⟩ := HI.out k hlt
      have HCL := hide (fun W' (h : Below w.heap.size w W') => (⟨(h.cell (p := ⟨b, o + k * 2, none⟩) hb).trans c0, (h.cell (p := ⟨b, o + k * 2 + 1, none⟩) hb).trans c1⟩ : W'.cell? ⟨b, o + k * 2, none⟩ = some (.int .i64 (F k).re) ∧ W'.cell? ⟨b, o + k * 2 + 1, none⟩ = some (.int .i64 (F k).im)))
      obtain ⟨x, hx⟩ : ∃ z, z = F k := ⟨_, rfl⟩
      rw [← hx] at HCL
      have hS1 := HCL.out _ hB
      have HX := hide hx
      have HO := hide ho
      have HB := hide hB
      clear hx hb c0 c1 ho hB hO
      go_upto_region 5 with fail
      refine wp_region_held_drew (S := fun w' => w'.cell? ⟨b, o + k * 2, none⟩ = some (.int .i64 x.re) ∧ w'.cell? ⟨b, o + k * 2 + 1, none⟩ = some (.int .i64 x.im)) (by kernel_rfl) hS1 (fun hHeld => ?_)
      clear hS1
      refine wpAnyH_take (i := 0) (oi := ⟨some 13, _, _, _, _, _⟩) (v := ?_) rfl (by kernel_rfl) (by kernel_rfl) (by kernel_rfl) (fun _ _ _ h => h) (Or.inl ⟨by rfl, ?_⟩) (by assumption) ?_
      rotate_left
      · (intro w' hSw; (try dsimp only at hSw); go_simp <;> (with_reducible rfl))
      try simp only [Act.put, List.setIfInBounds_toArray, List.set_cons_zero, List.set_cons_succ]
      refine wpAnyH_take (i := 1) (oi := ⟨some 14, _, _, _, _, _⟩) (v := ?_) rfl (by kernel_rfl) (by kernel_rfl) (by kernel_rfl) (fun _ _ _ h => h) (Or.inl ⟨by rfl, ?_⟩) (by assumption) ?_
      rotate_left
      · (intro w' hSw; (try dsimp only at hSw); go_simp <;> (with_reducible rfl))
      try simp only [Act.put, List.setIfInBounds_toArray, List.set_cons_zero, List.set_cons_succ]
      refine wpAnyH_take (i := 2) (oi := ⟨some 15, _, _, _, _, _⟩) (v := ?_) rfl (by kernel_rfl) (by kernel_rfl) (by kernel_rfl) (fun _ _ _ h => h) (Or.inl ⟨by rfl, ?_⟩) (by assumption) ?_
      rotate_left
      · (intro w' hSw; (try dsimp only at hSw); go_simp <;> (with_reducible rfl))
      try simp only [Act.put, List.setIfInBounds_toArray, List.set_cons_zero, List.set_cons_succ]
      refine wpAnyH_take (i := 3) (oi := ⟨some 16, _, _, _, _, _⟩) (v := ?_) rfl (by kernel_rfl) (by kernel_rfl) (by kernel_rfl) (fun _ _ _ h => h) (Or.inl ⟨by rfl, ?_⟩) (by assumption) ?_
      rotate_left
      · (intro w' hSw; (try dsimp only at hSw); go_simp <;> (with_reducible rfl))
      try simp only [Act.put, List.setIfInBounds_toArray, List.set_cons_zero, List.set_cons_succ]
      refine wpAnyH_take (i := 4) (oi := ⟨some 17, _, _, _, _, _⟩) (v := ?_) rfl (by kernel_rfl) (by kernel_rfl) (by kernel_rfl) (fun _ _ _ h => h) (Or.inl ⟨by rfl, ?_⟩) (by assumption) ?_
      rotate_left
      · (intro w' hSw; (try dsimp only at hSw); go_simp <;> (with_reducible rfl))
      try simp only [Act.put, List.setIfInBounds_toArray, List.set_cons_zero, List.set_cons_succ]
      refine wpAnyH_take (i := 5) (oi := ⟨some 18, _, _, _, _, _⟩) (v := ?_) rfl (by kernel_rfl) (by kernel_rfl) (by kernel_rfl) (fun _ _ _ h => h) (Or.inl ⟨by rfl, ?_⟩) (by assumption) ?_
      rotate_left
      · (intro w' hSw; (try dsimp only at hSw); go_simp <;> (with_reducible rfl))
      try simp only [Act.put, List.setIfInBounds_toArray, List.set_cons_zero, List.set_cons_succ]
      refine wpAnyH_take (i := 6) (oi := ⟨some 19, _, _, _, _, _⟩) (v := ?_) rfl (by kernel_rfl) (by kernel_rfl) (by kernel_rfl) (fun _ _ _ h => h) (Or.inl ⟨by rfl, ?_⟩) (by assumption) ?_
      rotate_left
      · (intro w' hSw; (try dsimp only at hSw); go_simp <;> (with_reducible rfl))
      try simp only [Act.put, List.setIfInBounds_toArray, List.set_cons_zero, List.set_cons_succ]
      refine wpAnyH_take (i := 7) (oi := ⟨some 20, _, _, _, _, _⟩) (v := ?_) rfl (by kernel_rfl) (by kernel_rfl) (by kernel_rfl) (fun _ _ _ h => h) (Or.inl ⟨by rfl, ?_⟩) (by assumption) ?_
      rotate_left
      · (intro w' hSw; (try dsimp only at hSw); go_simp <;> (with_reducible rfl))
      try simp only [Act.put, List.setIfInBounds_toArray, List.set_cons_zero, List.set_cons_succ]
      refine wpAnyH_take (i := 8) (oi := ⟨some 21, _, _, _, _, _⟩) (v := ?_) rfl (by kernel_rfl) (by kernel_rfl) (by kernel_rfl) (fun _ _ _ h => h) (Or.inl ⟨by rfl, ?_⟩) (by assumption) ?_
      rotate_left
      · (intro w' hSw; (try dsimp only at hSw); go_simp <;> (with_reducible rfl))
      try simp only [Act.put, List.setIfInBounds_toArray, List.set_cons_zero, List.set_cons_succ]
      refine wpAnyH_take (i := 9) (oi := ⟨some 22, _, _, _, _, _⟩) (v := .int .i64 (min m x.re)) rfl (by kernel_rfl) (by kernel_rfl) (by kernel_rfl) (fun _ _ _ h => h) (Or.inl ⟨by rfl, fun w' hSw => by go_simp⟩) (by assumption) ?_
      try simp only [Act.put, List.setIfInBounds_toArray, List.set_cons_zero, List.set_cons_succ]
      refine wpAnyH_take (i := 10) (oi := ⟨some 23, _, _, _, _, _⟩) (v := .int .i64 (max (-m) (min m x.re))) rfl (by kernel_rfl) (by kernel_rfl) (by kernel_rfl) (fun _ _ _ h => h) (Or.inl ⟨by rfl, fun w' hSw => by go_simp⟩) (by assumption) ?_
      try simp only [Act.put, List.setIfInBounds_toArray, List.set_cons_zero, List.set_cons_succ]
      refine wpAnyH_take (i := 11) (oi := ⟨some 24, _, _, _, _, _⟩) (v := ?_) rfl (by kernel_rfl) (by kernel_rfl) (by kernel_rfl) (fun _ _ _ h => h) (Or.inl ⟨by rfl, ?_⟩) (by assumption) ?_
      rotate_left
      · (intro w' hSw; (try dsimp only at hSw); go_simp <;> (with_reducible rfl))
      try simp only [Act.put, List.setIfInBounds_toArray, List.set_cons_zero, List.set_cons_succ]
      refine wpAnyH_take (i := 12) (oi := ⟨some 25, _, _, _, _, _⟩) (v := ?_) rfl (by kernel_rfl) (by kernel_rfl) (by kernel_rfl) (fun _ _ _ h => h) (Or.inl ⟨by rfl, ?_⟩) (by assumption) ?_
      rotate_left
      · (intro w' hSw; (try dsimp only at hSw); go_simp <;> (with_reducible rfl))
      try simp only [Act.put, List.setIfInBounds_toArray, List.set_cons_zero, List.set_cons_succ]
      refine wpAnyH_take (i := 13) (oi := ⟨some 26, _, _, _, _, _⟩) (v := ?_) rfl (by kernel_rfl) (by kernel_rfl) (by kernel_rfl) (fun _ _ _ h => h) (Or.inl ⟨by rfl, ?_⟩) (by assumption) ?_
      rotate_left
      · (intro w' hSw; (try dsimp only at hSw); go_simp <;> (with_reducible rfl))
      try simp only [Act.put, List.setIfInBounds_toArray, List.set_cons_zero, List.set_cons_succ]
      refine wpAnyH_take (i := 14) (oi := ⟨some 27, _, _, _, _, _⟩) (v := ?_) rfl (by kernel_rfl) (by kernel_rfl) (by kernel_rfl) (fun _ _ _ h => h) (Or.inl ⟨by rfl, ?_⟩) (by assumption) ?_
      rotate_left
      · (intro w' hSw; (try dsimp only at hSw); go_simp <;> (with_reducible rfl))
      try simp only [Act.put, List.setIfInBounds_toArray, List.set_cons_zero, List.set_cons_succ]
      refine wpAnyH_take (i := 15) (oi := ⟨some 28, _, _, _, _, _⟩) (v := ?_) rfl (by kernel_rfl) (by kernel_rfl) (by kernel_rfl) (fun _ _ _ h => h) (Or.inl ⟨by rfl, ?_⟩) (by assumption) ?_
      rotate_left
      · (intro w' hSw; (try dsimp only at hSw); go_simp <;> (with_reducible rfl))
      try simp only [Act.put, List.setIfInBounds_toArray, List.set_cons_zero, List.set_cons_succ]
      refine wpAnyH_take (i := 16) (oi := ⟨some 29, _, _, _, _, _⟩) (v := ?_) rfl (by kernel_rfl) (by kernel_rfl) (by kernel_rfl) (fun _ _ _ h => h) (Or.inl ⟨by rfl, ?_⟩) (by assumption) ?_
      rotate_left
      · (intro w' hSw; (try dsimp only at hSw); go_simp <;> (with_reducible rfl))
      try simp only [Act.put, List.setIfInBounds_toArray, List.set_cons_zero, List.set_cons_succ]
      refine wpAnyH_take (i := 17) (oi := ⟨some 30, _, _, _, _, _⟩) (v := ?_) rfl (by kernel_rfl) (by kernel_rfl) (by kernel_rfl) (fun _ _ _ h => h) (Or.inl ⟨by rfl, ?_⟩) (by assumption) ?_
      rotate_left
      · (intro w' hSw; (try dsimp only at hSw); go_simp <;> (with_reducible rfl))
      try simp only [Act.put, List.setIfInBounds_toArray, List.set_cons_zero, List.set_cons_succ]
      refine wpAnyH_take (i := 18) (oi := ⟨some 31, _, _, _, _, _⟩) (v := ?_) rfl (by kernel_rfl) (by kernel_rfl) (by kernel_rfl) (fun _ _ _ h => h) (Or.inl ⟨by rfl, ?_⟩) (by assumption) ?_
      rotate_left
      · (intro w' hSw; (try dsimp only at hSw); go_simp <;> (with_reducible rfl))
      try simp only [Act.put, List.setIfInBounds_toArray, List.set_cons_zero, List.set_cons_succ]
      refine wpAnyH_take (i := 19) (oi := ⟨some 32, _, _, _, _, _⟩) (v := .int .i64 (min m x.im)) rfl (by kernel_rfl) (by kernel_rfl) (by kernel_rfl) (fun _ _ _ h => h) (Or.inl ⟨by rfl, fun w' hSw => by go_simp⟩) (by assumption) ?_
      try simp only [Act.put, List.setIfInBounds_toArray, List.set_cons_zero, List.set_cons_succ]
      refine wpAnyH_take (i := 20) (oi := ⟨some 33, _, _, _, _, _⟩) (v := .int .i64 (max (-m) (min m x.im))) rfl (by kernel_rfl) (by kernel_rfl) (by kernel_rfl) (fun _ _ _ h => h) (Or.inl ⟨by rfl, fun w' hSw => by go_simp⟩) (by assumption) ?_
      try simp only [Act.put, List.setIfInBounds_toArray, List.set_cons_zero, List.set_cons_succ]
      simp only [clip_min]
      obtain ⟨z, hz⟩ : ∃ z, z = clipG m x := ⟨_, rfl⟩
      rw [show clipI m x.re = z.re by rw [hz]; rfl, show clipI m x.im = z.im by rw [hz]; rfl]
      have HZ := hide hz
      clear hz
      refine wpAnyH_take (i := 21) (oi := ⟨some 34, _, _, _, _, _⟩) (v := ?_) rfl (by kernel_rfl) (by kernel_rfl) (by kernel_rfl) (fun _ _ _ h => h) (Or.inl ⟨by rfl, ?_⟩) (by assumption) ?_
      rotate_left
      · (intro w' hSw; (try dsimp only at hSw); go_simp <;> (with_reducible rfl))
      try simp only [Act.put, List.setIfInBounds_toArray, List.set_cons_zero, List.set_cons_succ]
      refine wpAnyH_ready (rs := [22]) (by kernel_rfl) (by simp) ?_
      refine AllReadyH.cons (o := ⟨some 35, _, _, _, _, _⟩) rfl (fun K' hK => ?_) AllReadyH.nil
      go_simp
      have hAL : Below w.heap.size w (wA.drew.alloc (.cells #[.int .i64 z.re, .int .i64 z.im] 61)) := (HB.out.drew).alloc hBs _
      refine hK.out _ _ (HCL.out _ hAL) (fun hHeld => ?_)
      clear hK K'
      try simp only [Act.put, List.setIfInBounds_toArray, List.set_cons_zero, List.set_cons_succ]
      refine wpAnyH_ready (rs := [23]) (by kernel_rfl) (by simp) ?_
      refine AllReadyH.cons (o := ⟨some 36, _, _, _, _, _⟩) rfl (fun K' hK => ?_) AllReadyH.nil
      refine step_append_gaus _ rfl (.tmp 13) (.tmp 35) rfl w.heap.size 0 (.slice O k o9) k _ rfl (HO.out.alloc _) (some ⟨_, 0, none⟩) 1 1 (fun _ => z) rfl (GausAt.one (Box.made rfl)) (by omega) (by simp; omega) ?_
      intro v' w' h1 hb4
      have hc4 : Below w.heap.size w w' := hAL.trans ⟨hb4.os, hb4.tape, hb4.output, hb4.size, hb4.block⟩
      refine hK.out _ _ (HCL.out _ hc4) (fun hHeld => ?_)
      clear hK K'
      try simp only [Act.put, List.setIfInBounds_toArray, List.set_cons_zero, List.set_cons_succ]
      refine wpAnyH_ready (rs := [24]) (by kernel_rfl) (by simp) ?_
      refine AllReadyH.cons (o := ⟨some 5, _, _, _, _, _⟩) rfl (fun K' hK => ?_) AllReadyH.nil
      go_simp
      refine hK.out _ _ (HCL.out _ hc4) (fun hHeld => ?_)
      clear hK K'
      try simp only [Act.put, List.setIfInBounds_toArray, List.set_cons_zero, List.set_cons_succ]
      refine wpAnyH_done (by kernel_rfl) ?_ _
      go_wp2_with fail
      go_roundw
      case rel =>
        refine ⟨k + 1, by omega, by go_num, h1.congr fun j hj => ?_, hc4⟩
        unfold catG
        by_cases e : j < k
        · rw [if_pos e]
        · obtain rfl : j = k := by omega
          rw [if_neg e, HZ.out, HX.out]
      case measure => simp [Go.RowKit.intOf]; omega
    · obtain rfl : k = n := by omega
      have hltz : ¬ ((k : Int) < (k : Int)) := by omega
      have HO := hide ho
      have HB := hide hB
      clear ho hB hO
      go_wp2_with fail
      go_ret
      exact ⟨_, rfl, HO.out, HB.out⟩
end Go.Proofs.Ytmcgmlhpbpjmgaa
/- The walk of WaveClips. -/
namespace Go.Proofs.Ytmcgmlhpbpjmgaa
open Go.RowKit
theorem sq_mono {a b : Int} (h : (0 ≤ a ∧ a ≤ b) ∨ (b ≤ a ∧ a ≤ 0)) : a * a ≤ b * b := by
  rcases h with ⟨h1, h2⟩ | ⟨h1, h2⟩
  · exact Int.mul_le_mul h2 h2 h1 (by omega)
  · have h3 := Int.mul_le_mul (show -a ≤ -b by omega) (show -a ≤ -b by omega) (show 0 ≤ -a by omega) (show 0 ≤ -b by omega)
    rwa [Int.neg_mul_neg, Int.neg_mul_neg] at h3
theorem clip_closer {p q : Int} (h0 : 0 ≤ p) (h1 : p ≤ q) (x : Int) : (x - clipI q x) * (x - clipI q x) ≤ (x - clipI p x) * (x - clipI p x) := by
  apply sq_mono
  unfold clipI
  omega
theorem clip_twice {p : Int} (h0 : 0 ≤ p) (x : Int) : clipI p (clipI p x) = clipI p x := by unfold clipI; omega
theorem clipG_twice {p : Int} (h0 : 0 ≤ p) (x : Gau) : clipG p (clipG p x) = clipG p x := by
  unfold clipG
  simp only [clip_twice h0]
theorem errS_closer {F : Nat → Gau} {p q : Int} (h0 : 0 ≤ p) (h1 : p ≤ q) : ∀ n, errS F (fun j => clipG q (F j)) n ≤ errS F (fun j => clipG p (F j)) n
  | 0 => Int.le_refl _
  | n + 1 => by
    have h2 := errS_closer (F := F) h0 h1 n
    have h3 := clip_closer h0 h1 (F n).re
    have h4 := clip_closer h0 h1 (F n).im
    have h5 : sqG (F n) (clipG q (F n)) ≤ sqG (F n) (clipG p (F n)) := by
      show (_ : Int) * _ + _ * _ ≤ _
      exact Int.add_le_add h3 h4
    exact Int.add_le_add h2 h5
theorem gausE_all {M : Int} {F : Nat → Gau} {n : Nat} (h : ∀ j, j < n → (F j).Within M) : gausE M F n = 0 := by
  unfold gausE
  induction n with
  | zero => rfl
  | succ n ih =>
    rw [badE_succ (ih fun j hj => h j (by omega))]
    show unI ((F n).isIn M) 2 = 0
    rw [Gau.isIn_iff.2 (h n (by omega))]
    rfl
theorem clipG_within {p : Int} (h0 : 0 ≤ p ∧ p ≤ 10000) (x : Gau) : (clipG p x).Within 10000 := ⟨clipI_le h0.1 _ _ h0.2, clipI_le h0.1 _ _ h0.2⟩
theorem clipE_right {F : Nat → Gau} {n : Nat} {p : Int} (hn : n ≤ 120) (hp : 0 ≤ p ∧ p ≤ 10000) (hF : ∀ j, j < n → (F j).Within 10000) : clipE n F p = 0 := by
  unfold clipE
  rw [gausE_all hF, show decide ((n : Int) ≤ 120) = true by simp; omega, withinB_iff.2 hp]
  rfl
theorem errE_right {F G : Nat → Gau} {n : Nat} (hn : n ≤ 120) (hF : ∀ j, j < n → (F j).Within 10000) (hG : ∀ j, j < n → (G j).Within 10000) : errE n n F G = 0 := by
  unfold errE
  rw [gausE_all hF, gausE_all hG, show decide ((n : Int) ≤ 120) = true by simp; omega, show ((n : Int) == (n : Int)) = true by simp]
  rfl
theorem errV_right {F G : Nat → Gau} {n : Nat} (hn : n ≤ 120) (hF : ∀ j, j < n → (F j).Within 10000) (hG : ∀ j, j < n → (G j).Within 10000) : errV n n F G = errS F G n := by
  unfold errV
  rw [if_pos (errE_right hn hF hG)]
theorem clipE_few {F : Nat → Gau} {n : Nat} {p : Int} (hn : n ≤ 120) : clipE n F p = if gausE 10000 F n = 0 then unI (withinB p 0 10000) 2 else gausE 10000 F n := by
  unfold clipE
  rw [show decide ((n : Int) ≤ 120) = true by simp; omega, firstE, if_pos (show unI true 8 = 0 from rfl), firstE]
  by_cases h : gausE 10000 F n = 0
  · rw [if_pos h, if_pos h, firstE]
    by_cases h2 : unI (withinB p 0 10000) 2 = 0
    · rw [if_pos h2, h2]; rfl
    · rw [if_neg h2]
  · rw [if_neg h, if_neg h]
theorem errE_few {F G : Nat → Gau} {n m : Nat} (hn : n ≤ 120) : errE n m F G = if (if unI ((m : Int) == (n : Int)) 10 = 0 then gausE 10000 F n else unI ((m : Int) == (n : Int)) 10) = 0 then gausE 10000 G m else (if unI ((m : Int) == (n : Int)) 10 = 0 then gausE 10000 F n else unI ((m : Int) == (n : Int)) 10) := by
  unfold errE
  rw [show decide ((n : Int) ≤ 120) = true by simp; omega, firstE, if_pos (show unI true 8 = 0 from rfl), firstE]
  by_cases h : unI ((m : Int) == (n : Int)) 10 = 0
  · rw [if_pos h, if_pos h, firstE]
    by_cases h2 : gausE 10000 F n = 0
    · rw [if_pos h2, if_pos h2, firstE]
      by_cases h3 : gausE 10000 G m = 0
      · rw [if_pos h3, h3]; rfl
      · rw [if_neg h3]
    · rw [if_neg h2, if_neg h2]
  · rw [if_neg h, if_neg h, if_neg h]
theorem clipE_many {F : Nat → Gau} {n : Nat} {p : Int} (hn : 120 < n) : clipE n F p = 8 := by
  unfold clipE
  rw [show decide ((n : Int) ≤ 120) = false by simp; omega]
  rfl
theorem errE_many {F G : Nat → Gau} {n m : Nat} (hn : 120 < n) : errE n m F G = 8 := by
  unfold errE
  rw [show decide ((n : Int) ≤ 120) = false by simp; omega]
  rfl
theorem errV_wrong {F G : Nat → Gau} {n m : Nat} (h : errE n m F G ≠ 0) : errV n m F G = 0 := by
  unfold errV
  rw [if_neg h]
set_option maxHeartbeats 16000000 in
set_option maxRecDepth 100000 in
theorem waveClips_walk (A B : Option Addr) (n c m d : Nat) (F G : Nat → Gau) (p q : Int) (w : World) (hn9 : n ≤ 9223372036854775807) (hm9 : m ≤ 9223372036854775807) (hI : GausAt w 0 A n F) (hJ : GausAt w 0 B m G) :
    Calls Try.prog 4 #[.slice A n c, .slice B m d, .agg #[.int .i64 p, .int .i64 q]] w fun e w' => e = .returned (.bool true) ∧ Below w.heap.size w w' := by
  have HAW := hide (fun W => awake_any W)
  have HI := hide hI
  have HJ := hide hJ
  clear hI hJ
  by_cases hg : (n : Int) ≤ 20 ∨ ((n : Int) > 120 ∧ (n : Int) ≤ 122)
  case neg =>
    by_cases h1 : (n : Int) ≤ 120
    · have h2 : (n : Int) > 20 := by omega
      clear hg
      go_enter Try.func4, Try.ntmps4
      go_wp2_with fail
      refine (HAW.out _).mono ?_
      rintro e w1 ⟨rfl, hb1⟩
      go_wp2_with fail
      go_ret
      exact ⟨rfl, ((Below.refl _ _).alloc (Nat.le_refl _) _).trans (hb1.mono (by simp))⟩
    · have h2 : (n : Int) > 20 := by omega
      have h3 : (n : Int) > 122 := by omega
      clear hg
      go_enter Try.func4, Try.ntmps4
      go_wp2_with fail
      refine (HAW.out _).mono ?_
      rintro e w1 ⟨rfl, hb1⟩
      go_wp2_with fail
      go_ret
      exact ⟨rfl, ((Below.refl _ _).alloc (Nat.le_refl _) _).trans (hb1.mono (by simp))⟩
  have k2 : ¬ (n : Int) > 122 := by omega
  by_cases hm : (m : Int) > 122
  · rcases hg with hg | ⟨hg, hg'⟩
    · have k1 : ¬ (n : Int) > 20 := by omega
      clear hg hn9 hm9
      go_enter Try.func4, Try.ntmps4
      go_wp2_with fail
      refine (HAW.out _).mono ?_
      rintro e w1 ⟨rfl, hb1⟩
      go_wp2_with fail
      go_ret
      exact ⟨rfl, ((Below.refl _ _).alloc (Nat.le_refl _) _).trans (hb1.mono (by simp))⟩
    · have k1 : (n : Int) > 20 := by omega
      have k3 : ¬ (n : Int) ≤ 120 := by omega
      clear hg' hn9 hm9
      go_enter Try.func4, Try.ntmps4
      go_wp2_with fail
      refine (HAW.out _).mono ?_
      rintro e w1 ⟨rfl, hb1⟩
      go_wp2_with fail
      go_ret
      exact ⟨rfl, ((Below.refl _ _).alloc (Nat.le_refl _) _).trans (hb1.mono (by simp))⟩
  have hm5 : m ≤ 122 := by omega
  have hn5 : n ≤ 122 := by omega
  have HCX := hide (fun W (h : GausAt W 0 A n F) => copyGausses_own A n c F W (by omega) h)
  have HCY := hide (fun W (h : GausAt W 0 B m G) => copyGausses_own B m d G W (by omega) h)
  have HCL := hide (fun X x W (h : GausAt W 0 X n F) => Clipped_any X n x F p W (by omega) h)
  have HEO := hide (fun X x Y y W (h : GausAt W 0 X n F) (k : GausAt W 0 Y m G) => ErrorOf_any X Y n x m y F G W (by omega) (by omega) h k)
  rcases hg with hg | ⟨hg, hg2⟩
  case inr =>
    as_aux_lemma =>
    have k1 : (n : Int) > 20 := by omega
    have k3 : ¬ (n : Int) ≤ 120 := by omega
    have e1 := clipE_many (F := F) (p := p) (show 120 < n by omega)
    have e2 := errE_many (F := F) (G := G) (m := m) (show 120 < n by omega)
    have e3 := errV_wrong (F := F) (G := G) (n := n) (m := m) (by rw [e2]; decide)
    rw [e1] at HCL
    rw [e2, e3] at HEO
    clear e1 e2 e3 hg2
    go_enter Try.func4, Try.ntmps4
    go_upto_region 1 with fail
    obtain ⟨W0, hW0⟩ : ∃ z : World, z = w.alloc (.cells #[.int .i64 p, .int .i64 q] 39) := ⟨_, rfl⟩
    rw [← hW0]
    have bX : Box W0 w.heap.size 39 #[.int .i64 p, .int .i64 q] := by rw [hW0]; exact Box.made rfl
    have HB00 := hide (show Below w.heap.size w W0 by rw [hW0]; (repeat (first | (with_reducible exact Below.refl _ _) | (with_reducible refine Go.below_drewN ?_ _) | (with_reducible refine Below.drew ?_) | (with_reducible refine Below.alloc ?_ (by first | exact Nat.le_refl _ | (simp; done) | (simp; omega) | omega) _) | (with_reducible refine Below.setCell ?_ (by first | exact Nat.le_refl _ | (simp; done) | (simp; omega) | omega) _))))
    have HI0 := hide (HI.out.below HB00.out)
    have HJ0 := hide (HJ.out.below HB00.out)
    have CLS := hide (fun W' (h : Below W0.heap.size W0 W') => (⟨(h.cell (p := ⟨w.heap.size, 0, none⟩) bX.lt).trans (bX.at_ 0), (h.cell (p := ⟨w.heap.size, 1, none⟩) bX.lt).trans (bX.at_ 1)⟩ : W'.cell? ⟨w.heap.size, 0, none⟩ = some (.int .i64 p) ∧ W'.cell? ⟨w.heap.size, 1, none⟩ = some (.int .i64 q)))
    clear hW0 bX HI HJ
    go_wp2_with fail
    refine (HAW.out _).mono ?_
    rintro e w1 ⟨rfl, hB1⟩
    clear HAW
    go_upto_region 5 with fail
    have hS1 := CLS.out _ hB1
    refine wp_region_held_drew (S := fun w' => w'.cell? ⟨w.heap.size, 0, none⟩ = some (.int .i64 p) ∧ w'.cell? ⟨w.heap.size, 1, none⟩ = some (.int .i64 q)) (by kernel_rfl) hS1 (fun hHeld => ?_)
    clear hS1
    refine wpAnyH_take (i := 0) (oi := ⟨some 42, _, _, _, _, _⟩) (v := ?_) rfl (by kernel_rfl) (by kernel_rfl) (by kernel_rfl) (fun _ _ _ h => h) (Or.inl ⟨by rfl, ?_⟩) (by assumption) ?_
    rotate_left
    · (intro w' hSw; (try dsimp only at hSw); go_simp <;> (with_reducible rfl))
    try simp only [Act.put, List.setIfInBounds_toArray, List.set_cons_zero, List.set_cons_succ]
    refine wpAnyH_take (i := 2) (oi := ⟨some 44, _, _, _, _, _⟩) (v := ?_) rfl (by kernel_rfl) (by kernel_rfl) (by kernel_rfl) (fun _ _ _ h => h) (Or.inl ⟨by rfl, ?_⟩) (by assumption) ?_
    rotate_left
    · (intro w' hSw; (try dsimp only at hSw); go_simp <;> (with_reducible rfl))
    try simp only [Act.put, List.setIfInBounds_toArray, List.set_cons_zero, List.set_cons_succ]
    refine wpAnyH_take (i := 3) (oi := ⟨some 45, _, _, _, _, _⟩) (v := ?_) rfl (by kernel_rfl) (by kernel_rfl) (by kernel_rfl) (fun _ _ _ h => h) (Or.inl ⟨by rfl, ?_⟩) (by assumption) ?_
    rotate_left
    · (intro w' hSw; (try dsimp only at hSw); go_simp <;> (with_reducible rfl))
    try simp only [Act.put, List.setIfInBounds_toArray, List.set_cons_zero, List.set_cons_succ]
    refine wpAnyH_ready (rs := [1]) (by kernel_rfl) (by simp) ?_
    refine AllReadyH.cons (o := ⟨some 43, _, _, _, _, _⟩) rfl (fun K' hK => ?_) AllReadyH.nil
    go_simp
    go_at_call 18
    refine (HCX.out _ (by exact HI0.out.below hB1.drew)).mono ?_
    rintro r w2 ⟨v2, rfl, ho2, hb2⟩
    have hc2 : Below w1.heap.size w1 w2 := by first | exact hb2 | exact below_of_drew hb2 | exact below_of_drew (below_of_drew hb2)
    have hB2 := hB1.trans (hc2.mono hB1.size)
    obtain ⟨X2, x2, rfl, -, hX2⟩ := ownGaus_form ho2
    have hS2 := CLS.out _ hB2
    clear hb2 hc2 ho2 hB1
    go_wp2_with fail
    refine hK.out _ _ hS2 (fun hHeld => ?_)
    clear hK K'
    try simp only [Act.put, List.setIfInBounds_toArray, List.set_cons_zero, List.set_cons_succ]
    refine wpAnyH_ready (rs := [4]) (by kernel_rfl) (by simp) ?_
    refine AllReadyH.cons (o := ⟨some 46, _, _, _, _, _⟩) rfl (fun K' hK => ?_) AllReadyH.nil
    go_simp
    go_at_call 17
    refine (HCL.out _ _ _ (by exact hX2.weak (Nat.zero_le _))).mono ?_
    rintro r w3 ⟨v3, rfl, hg3, hb3⟩
    have hc3 : Below w2.heap.size w2 w3 := by first | exact hb3 | exact below_of_drew hb3 | exact below_of_drew (below_of_drew hb3)
    have hB3 := hB2.trans (hc3.mono hB2.size)
    have hS3 := CLS.out _ hB3
    have HG3 := hide hg3
    clear hb3 hc3 hB2 hS2 hX2 hg3
    go_wp2_with fail
    refine hK.out _ _ hS3 (fun hHeld => ?_)
    clear hK K'
    try simp only [Act.put, List.setIfInBounds_toArray, List.set_cons_zero, List.set_cons_succ]
    refine wpAnyH_take (i := 5) (oi := ⟨some 41, _, _, _, _, _⟩) (v := ?_) rfl (by kernel_rfl) (by kernel_rfl) (by kernel_rfl) (fun _ _ _ h => h) (Or.inl ⟨by rfl, ?_⟩) (by assumption) ?_
    rotate_left
    · (intro w' hSw; (try dsimp only at hSw); go_simp <;> (with_reducible rfl))
    try simp only [Act.put, List.setIfInBounds_toArray, List.set_cons_zero, List.set_cons_succ]
    refine wpAnyH_take (i := 6) (oi := ⟨some 47, _, _, _, _, _⟩) (v := ?_) rfl (by kernel_rfl) (by kernel_rfl) (by kernel_rfl) (fun _ _ _ h => h) (Or.inl ⟨by rfl, ?_⟩) (by assumption) ?_
    rotate_left
    · (intro w' hSw; (try dsimp only at hSw); go_simp <;> (with_reducible rfl))
    try simp only [Act.put, List.setIfInBounds_toArray, List.set_cons_zero, List.set_cons_succ]
    refine wpAnyH_take (i := 7) (oi := ⟨some 48, _, _, _, _, _⟩) (v := ?_) rfl (by kernel_rfl) (by kernel_rfl) (by kernel_rfl) (fun _ _ _ h => h) (Or.inl ⟨by rfl, ?_⟩) (by assumption) ?_
    rotate_left
    · (intro w' hSw; (try dsimp only at hSw); go_simp <;> (with_reducible rfl))
    try simp only [Act.put, List.setIfInBounds_toArray, List.set_cons_zero, List.set_cons_succ]
    refine wpAnyH_ready (rs := [8]) (by kernel_rfl) (by simp) ?_
    refine AllReadyH.cons (o := ⟨some 7, _, _, _, _, _⟩) rfl (fun K' hK => ?_) AllReadyH.nil
    go_simp
    refine hK.out _ _ hS3 (fun hHeld => ?_)
    clear hK K'
    try simp only [Act.put, List.setIfInBounds_toArray, List.set_cons_zero, List.set_cons_succ]
    refine wpAnyH_ready (rs := [9]) (by kernel_rfl) (by simp) ?_
    refine AllReadyH.cons (o := ⟨some 8, _, _, _, _, _⟩) rfl (fun K' hK => ?_) AllReadyH.nil
    go_simp
    refine hK.out _ _ hS3 (fun hHeld => ?_)
    clear hK K'
    try simp only [Act.put, List.setIfInBounds_toArray, List.set_cons_zero, List.set_cons_succ]
    clear hS3
    refine wpAnyH_done (by kernel_rfl) ?_ _
    obtain rfl : v3 = .slice none 0 0 := by
      rcases HG3.out with ⟨h, -⟩ | ⟨-, h⟩
      · exact absurd h (by decide)
      · exact h
    clear HG3
    go_wp2_with fail
    refine (HCX.out _ (by exact HI0.out.below hB3)).mono ?_
    rintro e w4 ⟨v4, rfl, ho4, hb4⟩
    obtain ⟨X4, x4, rfl, -, hX4⟩ := ownGaus_form ho4
    have hB4 := hB3.trans (hb4.mono hB3.size)
    have HX4 := hide (hX4.weak (Nat.zero_le _))
    clear ho4 hX4 hb4 hB3
    go_wp2_with fail
    refine (HCY.out _ (by exact HJ0.out.below hB4)).mono ?_
    rintro e w5 ⟨v5, rfl, ho5, hb5⟩
    obtain ⟨X5, x5, rfl, -, hX5⟩ := ownGaus_form ho5
    have hB5 := hB4.trans (hb5.mono hB4.size)
    have HX5 := hide (hX5.weak (Nat.zero_le _))
    replace HX4 := hide (HX4.out.below hb5)
    clear ho5 hX5 hb5 hB4
    go_wp2_with fail
    refine (HEO.out _ _ _ _ _ HX4.out HX5.out).mono ?_
    rintro e w6 ⟨rfl, hb6⟩
    have hB6 := hB5.trans (hb6.mono hB5.size)
    clear hb6 hB5 HX4 HX5
    obtain ⟨j0, j1⟩ := CLS.out _ hB6
    go_wp2_with fail
    go_ret
    exact ⟨rfl, HB00.out.trans (hB6.mono HB00.out.size)⟩
  case inl =>
    as_aux_lemma =>
    have k1 : ¬ (n : Int) > 20 := by omega
    have k3 : ¬ (n : Int) > 120 := by omega
    have hn20 : n ≤ 20 := by omega
    have HCR := hide (fun W (hp : 0 ≤ p ∧ p ≤ 10000) (h : GausAt W 0 A n F) => clippedR_any A n c F p W (by omega) hp h)
    have HCC := hide (fun X x W (h : GausAt W 0 X n (fun j => clipG p (F j))) => Clipped_any X n x (fun j => clipG p (F j)) p W (by omega) h)
    have HCA := hide (fun X x W (h : GausAt W 0 X n (fun j => clipG p (F j))) => copyGausses_own X n x (fun j => clipG p (F j)) W (by omega) h)
    have HCQ := hide (fun X x W (h : GausAt W 0 X n F) => Clipped_any X n x F q W (by omega) h)
    have HE1 := hide (fun X x Y y W (h : GausAt W 0 X n F) (k : GausAt W 0 Y n (fun j => clipG p (F j))) => ErrorOf_any X Y n x n y F (fun j => clipG p (F j)) W (by omega) (by omega) h k)
    have HE2 := hide (fun X x Y y W (h : GausAt W 0 X n F) (k : GausAt W 0 Y n (fun j => clipG q (F j))) => ErrorOf_any X Y n x n y F (fun j => clipG q (F j)) W (by omega) (by omega) h k)
    have HEX := hide (fun W (h : GausAt W 0 A n F) => entriesErrR_any A n c F W (by omega) h)
    have HEY := hide (fun W (h : GausAt W 0 B m G) => entriesErrR_any B m d G W (by omega) h)
    have HER := hide (fun W (h1 : m = n) (h : GausAt W 0 A n F) (k : GausAt W 0 B n G) (hF : ∀ j, j < n → (F j).Within 10000) (hG : ∀ j, j < n → (G j).Within 10000) => errorOfR_any A B n c d F G W (by omega) hF hG h k)
    have HGA := hide (fun X x Y y W (h : GausAt W 0 X n (fun j => clipG p (F j))) (k : GausAt W 0 Y n (fun j => clipG p (F j))) => gausses_alike X Y n x y _ _ W (by omega) h k (fun _ _ => rfl))
    have HV2 := hide (clipE_few (F := F) (n := n) (p := p) (by omega))
    have HE3 := hide (errE_few (F := F) (G := G) (n := n) (m := m) (by omega))
    have HEZ := hide (errE_zero (n := n) (m := m) (F := F) (G := G))
    have HEW := hide (errV_wrong (n := n) (m := m) (F := F) (G := G))
    have HER2 := hide (fun (h : errE n m F G = 0) => (show errV n m F G = errS F G n from by unfold errV; rw [if_pos h]))
    have HVZ := hide (clipE_zero (n := n) (F := F) (m := p))
    have T1 := hide (fun (hp : 0 ≤ p ∧ p ≤ 10000) => (show clipE n (fun j => clipG p (F j)) p = 0 from clipE_right (by omega) hp (fun j _ => clipG_within hp _)))
    have T2 := hide (fun (hq : 0 ≤ q ∧ q ≤ 10000) (hF : ∀ j, j < n → (F j).Within 10000) => (show clipE n F q = 0 from clipE_right (by omega) hq hF))
    have T3 := hide (fun (hp : 0 ≤ p ∧ p ≤ 10000) (hF : ∀ j, j < n → (F j).Within 10000) => (⟨errE_right (by omega) hF (fun j _ => clipG_within hp _), errV_right (by omega) hF (fun j _ => clipG_within hp _)⟩ : errE n n F (fun j => clipG p (F j)) = 0 ∧ errV n n F (fun j => clipG p (F j)) = errS F (fun j => clipG p (F j)) n))
    have T4 := hide (fun (hp : 0 ≤ q ∧ q ≤ 10000) (hF : ∀ j, j < n → (F j).Within 10000) => (⟨errE_right (by omega) hF (fun j _ => clipG_within hp _), errV_right (by omega) hF (fun j _ => clipG_within hp _)⟩ : errE n n F (fun j => clipG q (F j)) = 0 ∧ errV n n F (fun j => clipG q (F j)) = errS F (fun j => clipG q (F j)) n))
    have T5 := hide (fun (h0 : 0 ≤ p) (h1 : p ≤ q) => errS_closer (F := F) h0 h1 n)
    have T6 := hide (fun (h : 0 ≤ p) (j : Nat) => clipG_twice h (F j))
    clear hn20 hg
    go_enter Try.func4, Try.ntmps4
    go_upto_region 1 with fail
    obtain ⟨W0, hW0⟩ : ∃ z : World, z = w.alloc (.cells #[.int .i64 p, .int .i64 q] 39) := ⟨_, rfl⟩
    rw [← hW0]
    have bX : Box W0 w.heap.size 39 #[.int .i64 p, .int .i64 q] := by rw [hW0]; exact Box.made rfl
    have HB00 := hide (show Below w.heap.size w W0 by rw [hW0]; (repeat (first | (with_reducible exact Below.refl _ _) | (with_reducible refine Go.below_drewN ?_ _) | (with_reducible refine Below.drew ?_) | (with_reducible refine Below.alloc ?_ (by first | exact Nat.le_refl _ | (simp; done) | (simp; omega) | omega) _) | (with_reducible refine Below.setCell ?_ (by first | exact Nat.le_refl _ | (simp; done) | (simp; omega) | omega) _))))
    have HI0 := hide (HI.out.below HB00.out)
    have HJ0 := hide (HJ.out.below HB00.out)
    have CLS := hide (fun W' (h : Below W0.heap.size W0 W') => (⟨(h.cell (p := ⟨w.heap.size, 0, none⟩) bX.lt).trans (bX.at_ 0), (h.cell (p := ⟨w.heap.size, 1, none⟩) bX.lt).trans (bX.at_ 1)⟩ : W'.cell? ⟨w.heap.size, 0, none⟩ = some (.int .i64 p) ∧ W'.cell? ⟨w.heap.size, 1, none⟩ = some (.int .i64 q)))
    clear hW0 bX HI HJ
    go_wp2_with fail
    refine (HAW.out _).mono ?_
    rintro e w1 ⟨rfl, hB1⟩
    clear HAW
    go_upto_region 5 with fail
    have hS1 := CLS.out _ hB1
    refine wp_region_held_drew (S := fun w' => w'.cell? ⟨w.heap.size, 0, none⟩ = some (.int .i64 p) ∧ w'.cell? ⟨w.heap.size, 1, none⟩ = some (.int .i64 q)) (by kernel_rfl) hS1 (fun hHeld => ?_)
    clear hS1
    refine wpAnyH_take (i := 0) (oi := ⟨some 42, _, _, _, _, _⟩) (v := ?_) rfl (by kernel_rfl) (by kernel_rfl) (by kernel_rfl) (fun _ _ _ h => h) (Or.inl ⟨by rfl, ?_⟩) (by assumption) ?_
    rotate_left
    · (intro w' hSw; (try dsimp only at hSw); go_simp <;> (with_reducible rfl))
    try simp only [Act.put, List.setIfInBounds_toArray, List.set_cons_zero, List.set_cons_succ]
    refine wpAnyH_take (i := 2) (oi := ⟨some 44, _, _, _, _, _⟩) (v := ?_) rfl (by kernel_rfl) (by kernel_rfl) (by kernel_rfl) (fun _ _ _ h => h) (Or.inl ⟨by rfl, ?_⟩) (by assumption) ?_
    rotate_left
    · (intro w' hSw; (try dsimp only at hSw); go_simp <;> (with_reducible rfl))
    try simp only [Act.put, List.setIfInBounds_toArray, List.set_cons_zero, List.set_cons_succ]
    refine wpAnyH_take (i := 3) (oi := ⟨some 45, _, _, _, _, _⟩) (v := ?_) rfl (by kernel_rfl) (by kernel_rfl) (by kernel_rfl) (fun _ _ _ h => h) (Or.inl ⟨by rfl, ?_⟩) (by assumption) ?_
    rotate_left
    · (intro w' hSw; (try dsimp only at hSw); go_simp <;> (with_reducible rfl))
    try simp only [Act.put, List.setIfInBounds_toArray, List.set_cons_zero, List.set_cons_succ]
    refine wpAnyH_ready (rs := [1]) (by kernel_rfl) (by simp) ?_
    refine AllReadyH.cons (o := ⟨some 43, _, _, _, _, _⟩) rfl (fun K' hK => ?_) AllReadyH.nil
    go_simp
    go_at_call 18
    refine (HCX.out _ (by exact HI0.out.below hB1.drew)).mono ?_
    rintro r w2 ⟨v2, rfl, ho2, hb2⟩
    have hc2 : Below w1.heap.size w1 w2 := by first | exact hb2 | exact below_of_drew hb2 | exact below_of_drew (below_of_drew hb2)
    have hB2 := hB1.trans (hc2.mono hB1.size)
    obtain ⟨X2, x2, rfl, -, hX2⟩ := ownGaus_form ho2
    have hS2 := CLS.out _ hB2
    clear hb2 hc2 ho2 hB1
    go_wp2_with fail
    refine hK.out _ _ hS2 (fun hHeld => ?_)
    clear hK K'
    try simp only [Act.put, List.setIfInBounds_toArray, List.set_cons_zero, List.set_cons_succ]
    refine wpAnyH_ready (rs := [4]) (by kernel_rfl) (by simp) ?_
    refine AllReadyH.cons (o := ⟨some 46, _, _, _, _, _⟩) rfl (fun K' hK => ?_) AllReadyH.nil
    go_simp
    go_at_call 17
    refine (HCL.out _ _ _ (by exact hX2.weak (Nat.zero_le _))).mono ?_
    rintro r w3 ⟨v3, rfl, hg3, hb3⟩
    have hc3 : Below w2.heap.size w2 w3 := by first | exact hb3 | exact below_of_drew hb3 | exact below_of_drew (below_of_drew hb3)
    have hB3 := hB2.trans (hc3.mono hB2.size)
    have hS3 := CLS.out _ hB3
    have HG3 := hide hg3
    clear hb3 hc3 hB2 hS2 hX2 hg3
    go_wp2_with fail
    refine hK.out _ _ hS3 (fun hHeld => ?_)
    clear hK K'
    try simp only [Act.put, List.setIfInBounds_toArray, List.set_cons_zero, List.set_cons_succ]
    refine wpAnyH_take (i := 5) (oi := ⟨some 41, _, _, _, _, _⟩) (v := ?_) rfl (by kernel_rfl) (by kernel_rfl) (by kernel_rfl) (fun _ _ _ h => h) (Or.inl ⟨by rfl, ?_⟩) (by assumption) ?_
    rotate_left
    · (intro w' hSw; (try dsimp only at hSw); go_simp <;> (with_reducible rfl))
    try simp only [Act.put, List.setIfInBounds_toArray, List.set_cons_zero, List.set_cons_succ]
    refine wpAnyH_take (i := 6) (oi := ⟨some 47, _, _, _, _, _⟩) (v := ?_) rfl (by kernel_rfl) (by kernel_rfl) (by kernel_rfl) (fun _ _ _ h => h) (Or.inl ⟨by rfl, ?_⟩) (by assumption) ?_
    rotate_left
    · (intro w' hSw; (try dsimp only at hSw); go_simp <;> (with_reducible rfl))
    try simp only [Act.put, List.setIfInBounds_toArray, List.set_cons_zero, List.set_cons_succ]
    refine wpAnyH_take (i := 7) (oi := ⟨some 48, _, _, _, _, _⟩) (v := ?_) rfl (by kernel_rfl) (by kernel_rfl) (by kernel_rfl) (fun _ _ _ h => h) (Or.inl ⟨by rfl, ?_⟩) (by assumption) ?_
    rotate_left
    · (intro w' hSw; (try dsimp only at hSw); go_simp <;> (with_reducible rfl))
    try simp only [Act.put, List.setIfInBounds_toArray, List.set_cons_zero, List.set_cons_succ]
    refine wpAnyH_ready (rs := [8]) (by kernel_rfl) (by simp) ?_
    refine AllReadyH.cons (o := ⟨some 7, _, _, _, _, _⟩) rfl (fun K' hK => ?_) AllReadyH.nil
    go_simp
    refine hK.out _ _ hS3 (fun hHeld => ?_)
    clear hK K'
    try simp only [Act.put, List.setIfInBounds_toArray, List.set_cons_zero, List.set_cons_succ]
    refine wpAnyH_ready (rs := [9]) (by kernel_rfl) (by simp) ?_
    refine AllReadyH.cons (o := ⟨some 8, _, _, _, _, _⟩) rfl (fun K' hK => ?_) AllReadyH.nil
    go_simp
    refine hK.out _ _ hS3 (fun hHeld => ?_)
    clear hK K'
    try simp only [Act.put, List.setIfInBounds_toArray, List.set_cons_zero, List.set_cons_succ]
    clear hS3
    refine wpAnyH_done (by kernel_rfl) ?_ _
    obtain ⟨V, hV⟩ : ∃ z, z = clipE n F p := ⟨_, rfl⟩
    rw [← hV] at HG3 HV2 HVZ ⊢
    clear hV HCL
    go_wp2_with fail
    refine (HCX.out _ (by exact HI0.out.below hB3)).mono ?_
    rintro e w4 ⟨v4, rfl, ho4, hb4⟩
    obtain ⟨X4, x4, rfl, -, hX4⟩ := ownGaus_form ho4
    have hB4 := hB3.trans (hb4.mono hB3.size)
    have HX4 := hide (hX4.weak (Nat.zero_le _))
    replace HG3 := hide (HG3.out.below hb4)
    clear ho4 hX4 hb4 hB3
    go_wp2_with fail
    refine (HCY.out _ (by exact HJ0.out.below hB4)).mono ?_
    rintro e w5 ⟨v5, rfl, ho5, hb5⟩
    obtain ⟨X5, x5, rfl, -, hX5⟩ := ownGaus_form ho5
    have hB5 := hB4.trans (hb5.mono hB4.size)
    have HX5 := hide (hX5.weak (Nat.zero_le _))
    replace HX4 := hide (HX4.out.below hb5)
    replace HG3 := hide (HG3.out.below hb5)
    clear ho5 hX5 hb5 hB4
    go_wp2_with fail
    refine (HEO.out _ _ _ _ _ HX4.out HX5.out).mono ?_
    rintro e w6 ⟨rfl, hb6⟩
    have hB6 := hB5.trans (hb6.mono hB5.size)
    replace HG3 := hide (HG3.out.below hb6)
    clear hb6 hB5 HX4 HX5 HEO HCY
    obtain ⟨E, hE⟩ : ∃ z, z = errE n m F G := ⟨_, rfl⟩
    obtain ⟨R, hR⟩ : ∃ z, z = errV n m F G := ⟨_, rfl⟩
    rw [← hE] at HE3 HEZ HEW HER2 ⊢
    rw [← hR] at HEW HER2 ⊢
    clear hE hR
    obtain ⟨s, hs⟩ : ∃ z, z = gausE 10000 F n := ⟨_, rfl⟩
    obtain ⟨t, ht⟩ : ∃ z, z = gausE 10000 G m := ⟨_, rfl⟩
    rw [← hs] at HEX HV2 HE3
    rw [← ht] at HEY HE3
    have HSF := hide (fun (h : s = 0) => gausE_within (hs.symm.trans h))
    clear hs ht
    go_wp2_with fail
    refine (HEX.out _ (HI0.out.below hB6)).mono ?_
    rintro e w7 ⟨rfl, hb7⟩
    have hB7 := hB6.trans (hb7.mono hB6.size)
    replace HG3 := hide (HG3.out.below hb7)
    clear hb7 hB6 
    obtain ⟨u, hu⟩ : ∃ z, z = unI ((m : Int) == (n : Int)) 10 := ⟨_, rfl⟩
    rw [← hu] at HE3
    have HU := hide hu
    clear hu
    go_upto_if 73 with fail
    go_cut [12] (fun s wx => s = .int .i64 u ∧ wx = w7)
    case first =>
      as_aux_lemma =>
      by_cases h : m = n
      · have t0 : ((m : Int) != (n : Int)) = false := by simp; omega
        have HU0 := hide (show u = 0 by rw [HU.out, show ((m : Int) == (n : Int)) = true by simp; omega]; rfl)
        clear h
        go_wp2_with fail
        go_meet
        case rel => exact ⟨by rw [HU0.out], rfl⟩
      · have t0 : ((m : Int) != (n : Int)) = true := by simp; omega
        have HU0 := hide (show u = 10 by rw [HU.out, show ((m : Int) == (n : Int)) = false by simp; omega]; rfl)
        clear h
        go_wp2_with fail
        go_meet
        case rel => exact ⟨by rw [HU0.out], rfl⟩
    case rest =>
      as_aux_lemma =>
      obtain ⟨rfl, rfl⟩ := hcut
      clear HU
      obtain ⟨w8, rfl⟩ : ∃ x : World, x = wc := ⟨_, rfl⟩
      have hB8 := hB7
      clear hB7
      go_upto_if 75 with fail
      go_cut [12] (fun z wx => z = .int .i64 (if u = 0 then s else u) ∧ Below w8.heap.size w8 wx)
      case first =>
        as_aux_lemma =>
        by_cases h : u = 0
        · have t0 : (u == 0) = true := by simpa using h
          have HU0 := hide h
          clear h
          go_wp2_with fail
          refine (HEX.out _ (HI0.out.below hB8)).mono ?_
          rintro e wx ⟨rfl, hbx⟩
          go_wp2_with fail
          go_meet
          case rel => exact ⟨by rw [if_pos HU0.out], hbx⟩
        · have t0 : (u == 0) = false := by simpa using h
          have HU0 := hide h
          clear h
          go_wp2_with fail
          go_meet
          case rel => exact ⟨by rw [if_neg HU0.out], Below.refl _ _⟩
      case rest =>
        as_aux_lemma =>
        obtain ⟨rfl, hb9⟩ := hcut
        obtain ⟨w9, rfl⟩ : ∃ x : World, x = wc := ⟨_, rfl⟩
        have hB9 := hB8.trans (hb9.mono hB8.size)
        replace HG3 := hide (HG3.out.below hb9)
        clear hb9 hB8
        generalize (if u = 0 then s else u) = y at *
        go_upto_if 79 with fail
        go_cut [12] (fun z wx => z = .int .i64 E ∧ Below w9.heap.size w9 wx)
        case first =>
          as_aux_lemma =>
          by_cases h : y = 0
          · have t0 : (y == 0) = true := by simpa using h
            have HU0 := hide (HE3.out.trans (if_pos h))
            clear h
            go_wp2_with fail
            refine (HEY.out _ (HJ0.out.below hB9)).mono ?_
            rintro e wx ⟨rfl, hbx⟩
            go_wp2_with fail
            go_meet
            case rel => exact ⟨by rw [HU0.out], hbx⟩
          · have t0 : (y == 0) = false := by simpa using h
            have HU0 := hide (HE3.out.trans (if_neg h))
            clear h
            go_wp2_with fail
            go_meet
            case rel => exact ⟨by rw [HU0.out], Below.refl _ _⟩
        case rest =>
          as_aux_lemma =>
          obtain ⟨rfl, hb10⟩ := hcut
          obtain ⟨w10, rfl⟩ : ∃ x : World, x = wc := ⟨_, rfl⟩
          have hB10 := hB9.trans (hb10.mono hB9.size)
          replace HG3 := hide (HG3.out.below hb10)
          clear hb10 hB9 HE3 HEX HEY
          go_upto_region 19 with fail
          go_cut [107] (fun z wx => z = .bool false ∧ Below w10.heap.size w10 wx)
          case first =>
            as_aux_lemma =>
            by_cases h : E = 0
            · obtain ⟨h1, rfl, h3, h4⟩ := HEZ.out h
              have HRR := hide (HER.out w10 rfl (HI0.out.below hB10) (HJ0.out.below hB10) (gausE_within h3) (gausE_within h4))
              have hR := HER2.out h
              rw [← hR] at HRR
              have t1 : (R != R) = false := by simp
              subst h
              clear HER HEZ HEW HER2 h1 h3 h4 hR
              go_wp2_with fail
              refine HRR.out.mono ?_
              rintro e wx ⟨rfl, hbx⟩
              go_wp2_with fail
              go_meet
              case rel => exact ⟨rfl, hbx⟩
            · have t1 : (E != 0) = true := by simpa using h
              have t2 : (E != E) = false := by simp
              have t3 : (E == 0) = false := by simpa using h
              have hR0 := HEW.out h
              clear HER HEZ HEW HER2
              subst hR0
              clear h
              go_wp2_with fail
              go_meet
              case rel => exact ⟨rfl, Below.refl _ _⟩
          case rest =>
            as_aux_lemma =>
            obtain ⟨rfl, hb11⟩ := hcut
            obtain ⟨w11, rfl⟩ : ∃ x : World, x = wc := ⟨_, rfl⟩
            have hB11 := hB10.trans (hb11.mono hB10.size)
            replace HG3 := hide (HG3.out.below hb11)
            clear hb11 hB10 HER HEZ HEW HER2
            go_upto_region 21 with fail
            go_cut [115] (fun z wx => z = .bool ((s == 0) && !(withinB p 0 10000)) ∧ wx = w11)
            case first =>
              as_aux_lemma =>
              obtain ⟨j0, j1⟩ := CLS.out _ hB11
              by_cases h : s = 0
              · have t0 : (s == 0) = true := by simpa using h
                clear h
                go_wp2_with (go_at_call 22; refine (within_any _ _ _ _).mono ?_; rintro e w' ⟨rfl, rfl⟩)
                go_meet
                case rel => exact ⟨by rw [t0]; rfl, rfl⟩
              · have t0 : (s == 0) = false := by simpa using h
                clear h
                go_wp2_with fail
                go_meet
                case rel => exact ⟨by rw [t0]; rfl, rfl⟩
            case rest =>
              as_aux_lemma =>
              obtain ⟨rfl, rfl⟩ := hcut
              obtain ⟨w12, rfl⟩ : ∃ x : World, x = wc := ⟨_, rfl⟩
              have hB12 := hB11
              clear hB11
              go_upto_if 115 with fail
              go_cut [11] (fun z wx => z = .int .i64 V ∧ wx = w12)
              case first =>
                as_aux_lemma =>
                by_cases h : s = 0
                · have t0 : (s == 0) = true := by simpa using h
                  have HVV := hide (HV2.out.trans (if_pos h))
                  have HSS := hide h
                  cases hw : withinB p 0 10000
                  · rw [hw] at HVV
                    clear h
                    rw [t0]
                    go_wp2_with fail
                    go_meet
                    case rel => exact ⟨by rw [HVV.out]; rfl, rfl⟩
                  · rw [hw] at HVV
                    clear h
                    rw [t0]
                    go_wp2_with fail
                    go_meet
                    case rel => exact ⟨by rw [HVV.out, HSS.out]; rfl, rfl⟩
                · have t0 : (s == 0) = false := by simpa using h
                  have HVV := hide (HV2.out.trans (if_neg h))
                  clear h
                  rw [t0, Bool.false_and]
                  go_wp2_with fail
                  go_meet
                  case rel => exact ⟨by rw [HVV.out], rfl⟩
              case rest =>
                as_aux_lemma =>
                obtain ⟨rfl, rfl⟩ := hcut
                obtain ⟨w13, rfl⟩ : ∃ x : World, x = wc := ⟨_, rfl⟩
                have hB13 := hB12
                clear hB12
                have HVS := hide (fun (h : V = 0) => (show s = 0 from by
                  by_cases h1 : s = 0
                  · exact h1
                  · have := HV2.out
                    rw [if_neg h1] at this
                    rw [← this]; exact h))
                clear HV2
                rcases HG3.out with ⟨hv, X, x, rfl, hX⟩ | ⟨hv, rfl⟩
                case inr =>
                  as_aux_lemma =>
                  have t1 : (V != 0) = true := by simpa using hv
                  have t2 : (V == V) = true := by simp
                  clear hv
                  go_wp2_with fail
                  go_ret
                  exact ⟨rfl, HB00.out.trans (hB13.mono HB00.out.size)⟩
                obtain ⟨-, hs0, hp⟩ := HVZ.out hv
                have hFW := gausE_within hs0
                have HXX := hide hX
                have HP := hide hp
                have HT1 := hide (T1.out hp)
                have HT3 := hide (T3.out hp hFW)
                have HT6 := hide (T6.out hp.1)
                have HFW := hide hFW
                have HRC := hide (HCR.out w13 hp (HI0.out.below hB13))
                subst hv
                clear hX hs0 hp hFW T1 T3 T6 HG3 HVS HVZ HSF HCR
                obtain ⟨j0, j1⟩ := CLS.out _ hB13
                go_wp2_with fail
                refine HRC.out.mono ?_
                rintro e w14 ⟨v14, rfl, ho14, hb14⟩
                obtain ⟨X14, x14, rfl, -, hX14⟩ := ownGaus_form ho14
                have hB14 := hB13.trans (hb14.mono hB13.size)
                have HX14 := hide (hX14.weak (Nat.zero_le _))
                replace HXX := hide (HXX.out.below hb14)
                clear ho14 hX14 hb14 hB13 HRC j0 j1
                go_wp2_with fail
                refine (HGA.out _ _ _ _ _ HXX.out HX14.out).mono ?_
                rintro e w15 ⟨rfl, hb15⟩
                have hB15 := hB14.trans (hb15.mono hB14.size)
                replace HXX := hide (HXX.out.below hb15)
                clear hb15 hB14 HX14
                go_upto_region 27 with fail
                have hS15 := CLS.out _ hB15
                refine wp_region_held_drew (S := fun w' => w'.cell? ⟨w.heap.size, 0, none⟩ = some (.int .i64 p) ∧ w'.cell? ⟨w.heap.size, 1, none⟩ = some (.int .i64 q)) (by kernel_rfl) hS15 (fun hHeld => ?_)
                clear hS15
                refine wpAnyH_take (i := 0) (oi := ⟨some 138, _, _, _, _, _⟩) (v := ?_) rfl (by kernel_rfl) (by kernel_rfl) (by kernel_rfl) (fun _ _ _ h => h) (Or.inl ⟨by rfl, ?_⟩) (by assumption) ?_
                rotate_left
                · (intro w' hSw; (try dsimp only at hSw); go_simp <;> (with_reducible rfl))
                try simp only [Act.put, List.setIfInBounds_toArray, List.set_cons_zero, List.set_cons_succ]
                refine wpAnyH_take (i := 2) (oi := ⟨some 140, _, _, _, _, _⟩) (v := ?_) rfl (by kernel_rfl) (by kernel_rfl) (by kernel_rfl) (fun _ _ _ h => h) (Or.inl ⟨by rfl, ?_⟩) (by assumption) ?_
                rotate_left
                · (intro w' hSw; (try dsimp only at hSw); go_simp <;> (with_reducible rfl))
                try simp only [Act.put, List.setIfInBounds_toArray, List.set_cons_zero, List.set_cons_succ]
                refine wpAnyH_take (i := 3) (oi := ⟨some 141, _, _, _, _, _⟩) (v := ?_) rfl (by kernel_rfl) (by kernel_rfl) (by kernel_rfl) (fun _ _ _ h => h) (Or.inl ⟨by rfl, ?_⟩) (by assumption) ?_
                rotate_left
                · (intro w' hSw; (try dsimp only at hSw); go_simp <;> (with_reducible rfl))
                try simp only [Act.put, List.setIfInBounds_toArray, List.set_cons_zero, List.set_cons_succ]
                refine wpAnyH_ready (rs := [1]) (by kernel_rfl) (by simp) ?_
                refine AllReadyH.cons (o := ⟨some 139, _, _, _, _, _⟩) rfl (fun K' hK => ?_) AllReadyH.nil
                go_simp
                go_at_call 18
                refine (HCA.out _ _ _ (by exact HXX.out.below (Below.refl _ _).drew)).mono ?_
                rintro r w16 ⟨v16, rfl, ho16, hb16⟩
                have hc16 : Below w15.heap.size w15 w16 := by first | exact hb16 | exact below_of_drew hb16 | exact below_of_drew (below_of_drew hb16)
                have hB16 := hB15.trans (hc16.mono hB15.size)
                obtain ⟨X16, x16, rfl, -, hX16⟩ := ownGaus_form ho16
                have hS16 := CLS.out _ hB16
                replace HXX := hide (HXX.out.below hc16)
                clear hb16 hc16 ho16 hB15
                go_wp2_with fail
                refine hK.out _ _ hS16 (fun hHeld => ?_)
                clear hK K'
                try simp only [Act.put, List.setIfInBounds_toArray, List.set_cons_zero, List.set_cons_succ]
                refine wpAnyH_ready (rs := [4]) (by kernel_rfl) (by simp) ?_
                refine AllReadyH.cons (o := ⟨some 142, _, _, _, _, _⟩) rfl (fun K' hK => ?_) AllReadyH.nil
                go_simp
                go_at_call 17
                refine (HCC.out _ _ _ (by exact hX16.weak (Nat.zero_le _))).mono ?_
                rintro r w17 ⟨v17, rfl, hg17, hb17⟩
                have hc17 : Below w16.heap.size w16 w17 := by first | exact hb17 | exact below_of_drew hb17 | exact below_of_drew (below_of_drew hb17)
                have hB17 := hB16.trans (hc17.mono hB16.size)
                have hS17 := CLS.out _ hB17
                have HG17 := hide hg17
                replace HXX := hide (HXX.out.below hc17)
                clear hb17 hc17 hB16 hS16 hX16 hg17
                go_wp2_with fail
                refine hK.out _ _ hS17 (fun hHeld => ?_)
                clear hK K'
                try simp only [Act.put, List.setIfInBounds_toArray, List.set_cons_zero, List.set_cons_succ]
                refine wpAnyH_take (i := 5) (oi := ⟨some 137, _, _, _, _, _⟩) (v := ?_) rfl (by kernel_rfl) (by kernel_rfl) (by kernel_rfl) (fun _ _ _ h => h) (Or.inl ⟨by rfl, ?_⟩) (by assumption) ?_
                rotate_left
                · (intro w' hSw; (try dsimp only at hSw); go_simp <;> (with_reducible rfl))
                try simp only [Act.put, List.setIfInBounds_toArray, List.set_cons_zero, List.set_cons_succ]
                refine wpAnyH_take (i := 6) (oi := ⟨some 143, _, _, _, _, _⟩) (v := ?_) rfl (by kernel_rfl) (by kernel_rfl) (by kernel_rfl) (fun _ _ _ h => h) (Or.inl ⟨by rfl, ?_⟩) (by assumption) ?_
                rotate_left
                · (intro w' hSw; (try dsimp only at hSw); go_simp <;> (with_reducible rfl))
                try simp only [Act.put, List.setIfInBounds_toArray, List.set_cons_zero, List.set_cons_succ]
                refine wpAnyH_take (i := 7) (oi := ⟨some 144, _, _, _, _, _⟩) (v := ?_) rfl (by kernel_rfl) (by kernel_rfl) (by kernel_rfl) (fun _ _ _ h => h) (Or.inl ⟨by rfl, ?_⟩) (by assumption) ?_
                rotate_left
                · (intro w' hSw; (try dsimp only at hSw); go_simp <;> (with_reducible rfl))
                try simp only [Act.put, List.setIfInBounds_toArray, List.set_cons_zero, List.set_cons_succ]
                refine wpAnyH_ready (rs := [8]) (by kernel_rfl) (by simp) ?_
                refine AllReadyH.cons (o := ⟨some 13, _, _, _, _, _⟩) rfl (fun K' hK => ?_) AllReadyH.nil
                go_simp
                refine hK.out _ _ hS17 (fun hHeld => ?_)
                clear hK K'
                try simp only [Act.put, List.setIfInBounds_toArray, List.set_cons_zero, List.set_cons_succ]
                refine wpAnyH_ready (rs := [9]) (by kernel_rfl) (by simp) ?_
                refine AllReadyH.cons (o := ⟨some 14, _, _, _, _, _⟩) rfl (fun K' hK => ?_) AllReadyH.nil
                go_simp
                refine hK.out _ _ hS17 (fun hHeld => ?_)
                clear hK K'
                try simp only [Act.put, List.setIfInBounds_toArray, List.set_cons_zero, List.set_cons_succ]
                clear hS17
                refine wpAnyH_done (by kernel_rfl) ?_ _
                rw [HT1.out] at HG17 ⊢
                obtain ⟨X17, x17, rfl, hX17⟩ : ∃ X x, v17 = .slice X n x ∧ GausAt w17 0 X n (fun j => clipG p (F j)) := by
                  rcases HG17.out with ⟨-, X, x, h1, h2⟩ | ⟨h, -⟩
                  · exact ⟨X, x, h1, h2.congr fun j _ => HT6.out j⟩
                  · exact absurd rfl h
                have HX17 := hide hX17
                clear hX17 HG17 HT1 HT6
                go_wp2_with fail
                refine (HGA.out _ _ _ _ _ HXX.out HX17.out).mono ?_
                rintro e w18 ⟨rfl, hb18⟩
                have hB18 := hB17.trans (hb18.mono hB17.size)
                replace HXX := hide (HXX.out.below hb18)
                clear hb18 hB17 HX17
                obtain ⟨j0, j1⟩ := CLS.out _ hB18
                cases hw : withinB q p 10000
                · go_wp2_with (go_at_call 22; refine (within_any _ _ _ _).mono ?_; rintro e w' ⟨rfl, rfl⟩; rw [hw])
                  go_ret
                  exact ⟨rfl, HB00.out.trans (hB18.mono HB00.out.size)⟩
                have hq := withinB_iff.1 hw
                have HP0 := HP.out
                have HT2 := hide (T2.out (by omega) HFW.out)
                have HT4 := hide (T4.out (by omega) HFW.out)
                have HT5 := hide (T5.out HP0.1 hq.1)
                clear hq HP0 T2 T4 T5
                go_upto_if 158 with (go_at_call 22; refine (within_any _ _ _ _).mono ?_; rintro e w' ⟨rfl, rfl⟩; rw [hw])
                clear hw j0 j1
                go_upto_region 32 with fail
                have hS18 := CLS.out _ hB18
                refine wp_region_held_drew (S := fun w' => w'.cell? ⟨w.heap.size, 0, none⟩ = some (.int .i64 p) ∧ w'.cell? ⟨w.heap.size, 1, none⟩ = some (.int .i64 q)) (by kernel_rfl) hS18 (fun hHeld => ?_)
                clear hS18
                refine wpAnyH_take (i := 0) (oi := ⟨some 160, _, _, _, _, _⟩) (v := ?_) rfl (by kernel_rfl) (by kernel_rfl) (by kernel_rfl) (fun _ _ _ h => h) (Or.inl ⟨by rfl, ?_⟩) (by assumption) ?_
                rotate_left
                · (intro w' hSw; (try dsimp only at hSw); go_simp <;> (with_reducible rfl))
                try simp only [Act.put, List.setIfInBounds_toArray, List.set_cons_zero, List.set_cons_succ]
                refine wpAnyH_take (i := 2) (oi := ⟨some 162, _, _, _, _, _⟩) (v := ?_) rfl (by kernel_rfl) (by kernel_rfl) (by kernel_rfl) (fun _ _ _ h => h) (Or.inl ⟨by rfl, ?_⟩) (by assumption) ?_
                rotate_left
                · (intro w' hSw; (try dsimp only at hSw); go_simp <;> (with_reducible rfl))
                try simp only [Act.put, List.setIfInBounds_toArray, List.set_cons_zero, List.set_cons_succ]
                refine wpAnyH_take (i := 3) (oi := ⟨some 163, _, _, _, _, _⟩) (v := ?_) rfl (by kernel_rfl) (by kernel_rfl) (by kernel_rfl) (fun _ _ _ h => h) (Or.inl ⟨by rfl, ?_⟩) (by assumption) ?_
                rotate_left
                · (intro w' hSw; (try dsimp only at hSw); go_simp <;> (with_reducible rfl))
                try simp only [Act.put, List.setIfInBounds_toArray, List.set_cons_zero, List.set_cons_succ]
                refine wpAnyH_ready (rs := [1]) (by kernel_rfl) (by simp) ?_
                refine AllReadyH.cons (o := ⟨some 161, _, _, _, _, _⟩) rfl (fun K' hK => ?_) AllReadyH.nil
                go_simp
                go_at_call 18
                refine (HCX.out _ (by exact HI0.out.below hB18.drew)).mono ?_
                rintro r w19 ⟨v19, rfl, ho19, hb19⟩
                have hc19 : Below w18.heap.size w18 w19 := by first | exact hb19 | exact below_of_drew hb19 | exact below_of_drew (below_of_drew hb19)
                have hB19 := hB18.trans (hc19.mono hB18.size)
                obtain ⟨X19, x19, rfl, -, hX19⟩ := ownGaus_form ho19
                have hS19 := CLS.out _ hB19
                replace HXX := hide (HXX.out.below hc19)
                clear hb19 hc19 ho19 hB18
                go_wp2_with fail
                refine hK.out _ _ hS19 (fun hHeld => ?_)
                clear hK K'
                try simp only [Act.put, List.setIfInBounds_toArray, List.set_cons_zero, List.set_cons_succ]
                refine wpAnyH_ready (rs := [4]) (by kernel_rfl) (by simp) ?_
                refine AllReadyH.cons (o := ⟨some 164, _, _, _, _, _⟩) rfl (fun K' hK => ?_) AllReadyH.nil
                go_simp
                go_at_call 17
                refine (HCQ.out _ _ _ (by exact hX19.weak (Nat.zero_le _))).mono ?_
                rintro r w20 ⟨v20, rfl, hg20, hb20⟩
                have hc20 : Below w19.heap.size w19 w20 := by first | exact hb20 | exact below_of_drew hb20 | exact below_of_drew (below_of_drew hb20)
                have hB20 := hB19.trans (hc20.mono hB19.size)
                have hS20 := CLS.out _ hB20
                have HG20 := hide hg20
                replace HXX := hide (HXX.out.below hc20)
                clear hb20 hc20 hB19 hS19 hX19 hg20
                go_wp2_with fail
                refine hK.out _ _ hS20 (fun hHeld => ?_)
                clear hK K'
                try simp only [Act.put, List.setIfInBounds_toArray, List.set_cons_zero, List.set_cons_succ]
                refine wpAnyH_take (i := 5) (oi := ⟨some 159, _, _, _, _, _⟩) (v := ?_) rfl (by kernel_rfl) (by kernel_rfl) (by kernel_rfl) (fun _ _ _ h => h) (Or.inl ⟨by rfl, ?_⟩) (by assumption) ?_
                rotate_left
                · (intro w' hSw; (try dsimp only at hSw); go_simp <;> (with_reducible rfl))
                try simp only [Act.put, List.setIfInBounds_toArray, List.set_cons_zero, List.set_cons_succ]
                refine wpAnyH_take (i := 6) (oi := ⟨some 165, _, _, _, _, _⟩) (v := ?_) rfl (by kernel_rfl) (by kernel_rfl) (by kernel_rfl) (fun _ _ _ h => h) (Or.inl ⟨by rfl, ?_⟩) (by assumption) ?_
                rotate_left
                · (intro w' hSw; (try dsimp only at hSw); go_simp <;> (with_reducible rfl))
                try simp only [Act.put, List.setIfInBounds_toArray, List.set_cons_zero, List.set_cons_succ]
                refine wpAnyH_take (i := 7) (oi := ⟨some 166, _, _, _, _, _⟩) (v := ?_) rfl (by kernel_rfl) (by kernel_rfl) (by kernel_rfl) (fun _ _ _ h => h) (Or.inl ⟨by rfl, ?_⟩) (by assumption) ?_
                rotate_left
                · (intro w' hSw; (try dsimp only at hSw); go_simp <;> (with_reducible rfl))
                try simp only [Act.put, List.setIfInBounds_toArray, List.set_cons_zero, List.set_cons_succ]
                refine wpAnyH_ready (rs := [8]) (by kernel_rfl) (by simp) ?_
                refine AllReadyH.cons (o := ⟨some 15, _, _, _, _, _⟩) rfl (fun K' hK => ?_) AllReadyH.nil
                go_simp
                refine hK.out _ _ hS20 (fun hHeld => ?_)
                clear hK K'
                try simp only [Act.put, List.setIfInBounds_toArray, List.set_cons_zero, List.set_cons_succ]
                refine wpAnyH_ready (rs := [9]) (by kernel_rfl) (by simp) ?_
                refine AllReadyH.cons (o := ⟨some 16, _, _, _, _, _⟩) rfl (fun K' hK => ?_) AllReadyH.nil
                go_simp
                refine hK.out _ _ hS20 (fun hHeld => ?_)
                clear hK K'
                try simp only [Act.put, List.setIfInBounds_toArray, List.set_cons_zero, List.set_cons_succ]
                clear hS20
                refine wpAnyH_done (by kernel_rfl) ?_ _
                rw [HT2.out] at HG20 ⊢
                obtain ⟨X20, x20, rfl, hX20⟩ : ∃ X x, v20 = .slice X n x ∧ GausAt w20 0 X n (fun j => clipG q (F j)) := by
                  rcases HG20.out with ⟨-, X, x, h1, h2⟩ | ⟨h, -⟩
                  · exact ⟨X, x, h1, h2⟩
                  · exact absurd rfl h
                have HX20 := hide hX20
                clear hX20 HG20 HT2
                go_wp2_with fail
                refine (HCX.out _ (by exact HI0.out.below hB20)).mono ?_
                rintro e w21 ⟨v21, rfl, ho21, hb21⟩
                obtain ⟨X21, x21, rfl, -, hX21⟩ := ownGaus_form ho21
                have hB21 := hB20.trans (hb21.mono hB20.size)
                have HX21 := hide (hX21.weak (Nat.zero_le _))
                replace HXX := hide (HXX.out.below hb21)
                replace HX20 := hide (HX20.out.below hb21)
                clear ho21 hX21 hb21 hB20
                go_wp2_with fail
                refine (HE1.out _ _ _ _ _ HX21.out HXX.out).mono ?_
                rintro e w22 ⟨rfl, hb22⟩
                have hB22 := hB21.trans (hb22.mono hB21.size)
                replace HX20 := hide (HX20.out.below hb22)
                clear hb22 hB21 HX21 HXX
                go_wp2_with fail
                refine (HCX.out _ (by exact HI0.out.below hB22)).mono ?_
                rintro e w23 ⟨v23, rfl, ho23, hb23⟩
                obtain ⟨X23, x23, rfl, -, hX23⟩ := ownGaus_form ho23
                have hB23 := hB22.trans (hb23.mono hB22.size)
                have HX23 := hide (hX23.weak (Nat.zero_le _))
                replace HX20 := hide (HX20.out.below hb23)
                clear ho23 hX23 hb23 hB22
                go_wp2_with fail
                refine (HE2.out _ _ _ _ _ HX23.out HX20.out).mono ?_
                rintro e w24 ⟨rfl, hb24⟩
                have hB24 := hB23.trans (hb24.mono hB23.size)
                clear hb24 hB23 HX23 HX20
                rw [HT3.out.1, HT3.out.2, HT4.out.1, HT4.out.2]
                have h9 := HT5.out
                generalize errS F (fun j => clipG q (F j)) n = e1 at *
                generalize errS F (fun j => clipG p (F j)) n = e2 at *
                have t9 : decide (e1 ≤ e2) = true := decide_eq_true h9
                clear HT3 HT4 HT5
                go_wp2_with fail
                go_ret
                exact ⟨rfl, HB00.out.trans (hB24.mono HB00.out.size)⟩
end Go.Proofs.Ytmcgmlhpbpjmgaa
