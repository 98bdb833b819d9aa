/- Lemmas: Cc, Cd, Ad, Wb, Wc. -/
import Derived.Shelf.Abstract
import Derived.Maps.AppendAt
import Derived.Laws.MakeOwn
import Derived.Laws.OwnMore
import Derived.OwnWalk
import Derived.Test.YtibdbopejnkefaaBk01
set_option linter.unusedVariables false
set_option linter.unusedSimpArgs false
/- code: slices.IndexFunc, ContainsFunc at numbers; areBits, areWithin. -/
namespace Go.Proofs.Ytibdbopejnkefaa
open Go.RowKit

def anyN (n : Nat) (p : Nat → Bool) : Bool := (List.range n).any p
theorem anyN_iff {n : Nat} {p : Nat → Bool} : anyN n p = true ↔ ∃ j, j < n ∧ p j = true := by simp [anyN]

def notBit (x : Int) : Bool := x != 0 && x != 1

def bitsB (n : Nat) (F : Nat → Int) : Bool := !anyN n fun j => notBit (F j)
theorem bitsB_iff {n : Nat} {F : Nat → Int} : bitsB n F = true ↔ ∀ j, j < n → IsBit (F j) := by
  unfold bitsB
  rw [Bool.not_eq_true', ← Bool.not_eq_true, anyN_iff]
  constructor
  · intro h j hj
    rcases Decidable.em (IsBit (F j)) with hb | hb
    · exact hb
    · exact absurd ⟨j, hj, by unfold notBit; unfold IsBit at hb; simp; omega⟩ h
  · rintro h ⟨j, hj, hb⟩
    have := h j hj
    unfold notBit at hb
    unfold IsBit at this
    simp at hb
    omega

end Go.Proofs.Ytibdbopejnkefaa
/- A row of numbers that the call made: appended to. base: Ints, CopyInts, AreBits. -/
namespace Go.Proofs.Ytibdbopejnkefaa
open Go.RowKit

def intCells (n : Nat) (F : Nat → Int) : List Value := (List.range n).map fun j => Value.int .i64 (F j)
theorem intCells_len (n : Nat) (F : Nat → Int) : (intCells n F).length = n := by simp [intCells]
theorem intCells_get (n : Nat) (F : Nat → Int) (j : Nat) : (intCells n F)[j]? = if j < n then some (.int .i64 (F j)) else none := by
  unfold intCells
  by_cases h : j < n <;> simp [h]
theorem intCells_congr {n : Nat} {F G : Nat → Int} (h : ∀ j, j < n → F j = G j) : intCells n F = intCells n G := by
  unfold intCells
  exact List.map_congr_left fun j hj => by rw [h j (List.mem_range.1 hj)]
/-- F, and then G. -/
def catF (n : Nat) (F G : Nat → Int) : Nat → Int := fun j => if j < n then F j else G (j - n)
theorem intCells_cat (n m : Nat) (F G : Nat → Int) : intCells n F ++ intCells m G = intCells (n + m) (catF n F G) := by
  apply List.ext_getElem?
  intro j
  rw [List.getElem?_append, intCells_len, intCells_get, intCells_get, intCells_get]
  unfold catF
  by_cases h1 : j < n
  · rw [if_pos h1, if_pos h1, if_pos (by omega), if_pos h1]
  · rw [if_neg h1]
    by_cases h2 : j - n < m
    · rw [if_pos h2, if_pos (by omega), if_neg h1]
    · rw [if_neg h2, if_neg (by omega)]

/-- A slice of the call's own, of n numbers F, in a block that is not ahead of base. -/
def OwnInts (w : World) (base : Nat) (v : Value) (n : Nat) (F : Nat → Int) : Prop := w.ownsRow base 3 1 v n (intCells n F)
theorem OwnInts.nil_ (w : World) (base : Nat) (F : Nat → Int) : OwnInts w base (.slice none 0 0) 0 F := World.ownsRow_nil _ _ _ _
theorem OwnInts.form {w : World} {base n : Nat} {v : Value} {F : Nat → Int} (h : OwnInts w base v n F) : ∃ A c, v = .slice A n c ∧ n ≤ c ∧ IntsAt w base A n F := by
  rcases h.2 with ⟨rfl, hx⟩ | ⟨g, cap, cur, rfl, hb, hg, hnc, hm, hsz, htake⟩
  · subst hx
    exact ⟨_, _, rfl, Nat.le_refl _, IntsAt.nil_⟩
  · refine ⟨_, _, rfl, hnc, fun k hk => ⟨g, 0, rfl, hb, (Array.getElem?_eq_some_iff.1 hg).1, ?_⟩⟩
    have := World.ownsRow.cells h (g := g) rfl k (Value.int .i64 (F k)) (by rw [intCells_get, if_pos hk])
    rw [Addr.add_lit] at this
    exact this
theorem OwnInts.drew {w : World} {base n : Nat} {v : Value} {F : Nat → Int} (h : OwnInts w base v n F) : OwnInts w.drew base v n F := h
theorem OwnInts.drewN {w : World} {base n : Nat} {v : Value} {F : Nat → Int} (h : OwnInts w base v n F) (q : Nat) : OwnInts (w.drewN q) base v n F := h
theorem OwnInts.alloc {w : World} {base n : Nat} {v : Value} {F : Nat → Int} (h : OwnInts w base v n F) (o : Obj) : OwnInts (w.alloc o) base v n F := World.ownsRow.alloc h o
theorem OwnInts.below {w w' : World} {base n : Nat} {v : Value} {F : Nat → Int} (h : OwnInts w base v n F) (hb : Below w.heap.size w w') : OwnInts w' base v n F :=
  World.ownsRow.kept h (row := none) ⟨hb.os, hb.tape, hb.output, hb.size, fun k hk _ => hb.block k hk⟩ (by cases v.ownBlock <;> simp)
theorem OwnInts.congr {w : World} {base n : Nat} {v : Value} {F G : Nat → Int} (h : OwnInts w base v n F) (e : ∀ j, j < n → F j = G j) : OwnInts w base v n G := by
  unfold OwnInts at h ⊢
  rwa [← intCells_congr e]
theorem OwnInts.gave {w w' : World} {n : Nat} {v : Value} {F : Nat → Int} (h : OwnInts w' w.heap.size v n F) (hb : Below w.heap.size w w') : GaveInts w n F v w' := by
  obtain ⟨A, c, rfl, hc, hI⟩ := h.form
  exact ⟨A, c, rfl, hc, hI, hb⟩

theorem intInfo : (Try.prog.info? 3).map (fun i => (i.zero, i.size, i.bytes)) = some (some (.int .i64 0), 1, 8) := by kernel_rfl

set_option maxRecDepth 100000 in
theorem run_append_ints (w : World) (ty : TypeId) (base lo : Nat) (v : Value) (n : Nat) (F : Nat → Int) (hown : OwnInts w base v n F)
    (A : Option Addr) (m c : Nat) (G : Nat → Int) (hr : IntsAt w lo A m G) (hnm : n + m ≤ 1000000000) (hbase : base ≤ w.heap.size) :
    ∃ v' w', (Builtin.append_ #[44, 44] ty #[v, .slice A m c]).run Try.prog w = .ok v' w' ∧ OwnInts w' base v' (n + m) (catF n F G) ∧ Below base w w' := by
  obtain ⟨i0, hi, hz0, hz1, hz2⟩ := info_parts intInfo
  cases A with
  | none =>
    have hm : m = 0 := by
      rcases Nat.eq_zero_or_pos m with h0 | h0
      · exact h0
      · obtain ⟨b, o, e, -⟩ := hr 0 h0
        cases e
    subst hm
    have hrun : (Builtin.append_ #[44, 44] ty #[v, .slice none 0 c]).run Try.prog w = .ok v w := by
      rcases hown.2 with ⟨rfl, -⟩ | ⟨g, cap, cur, rfl, -, -, hnc, -⟩
      · simp [Builtin.append_, run_underlying Try.underlying44, sizeOf, typeInfo, hi, Builtin.lenOf, Builtin.firstCells]
      · simp [Builtin.append_, run_underlying Try.underlying44, sizeOf, typeInfo, hi, Builtin.lenOf, Builtin.firstCells, hnc, storeCells]
    exact ⟨v, w, hrun, OwnInts.congr (F := F) hown fun j hj => by unfold catF; rw [if_pos (show j < n by omega)], Below.refl _ _⟩
  | some ad =>
    obtain ⟨v', w', hrun, hown', hg, -, -⟩ := run_append_own_at (P := Try.prog) w base 44 ty 3 i0 (.int .i64 0) 1 8 Try.underlying44 hi hz0 hz1 hz2 rfl (by decide) v n _ hown ad m c (intCells m G) (by rw [intCells_len, Nat.mul_one])
      (fun j u hu => by
        rw [intCells_get] at hu
        split at hu
        · rename_i hj
          obtain ⟨b, o, e, -, -, hc⟩ := hr j hj
          injection e with e
          subst e
          injection hu with hu
          subst hu
          rw [Addr.add_lit]
          exact hc
        · cases hu)
      (fun u hu => by
        obtain ⟨j, -, rfl⟩ := List.mem_map.1 hu
        rfl) (by unfold maxLen; omega) (by omega) hbase
    rw [intCells_cat] at hown'
    exact ⟨v', w', hrun, hown', (Below.refl _ _).grown hg hbase (fun k hk => (World.ownsRow.lt hown k hk).1)⟩

theorem wp_append_ints {o : Oper} {a : Act} {K : Act → World → Prop} {Q : Exit → Act → World → Prop} (w : World) (s x : Operand)
    (ho : o.op = .call { callee := .builtin .append, args := #[s, x], argTypes := #[44, 44] })
    (base lo : Nat) (v : Value) (n : Nat) (F : Nat → Int) (hs : a.eval s = v) (hown : OwnInts w base v n F)
    (A : Option Addr) (m c : Nat) (G : Nat → Int) (hx : a.eval x = .slice A m c) (hr : IntsAt w lo A m G) (hnm : n + m ≤ 1000000000) (hbase : base ≤ w.heap.size)
    (h : ∀ v' w', OwnInts w' base v' (n + m) (catF n F G) → Below base w w' → K (a.put o.dst v') w') : o.wp Try.prog a w K Q := by
  obtain ⟨v', w', hrun, h1, h2⟩ := run_append_ints w o.type base lo v n F hown A m c G hr hnm hbase
  unfold Oper.wp execOp
  simp only [ho, resolve, invoke, builtin, Sem.run_bind, Sem.run_pure, Result.andThen_ok, List.map_toArray, List.map_cons, List.map_nil, hs, hx, hrun]
  exact h v' w' h1 h2

theorem wpList_append_ints {ops : Array Oper} {rest : List Oper} {o : Oper} {a : Act} {Q : Exit → Act → World → Prop} (w : World) (hgd : o.guard = none) (s x : Operand)
    (ho : o.op = .call { callee := .builtin .append, args := #[s, x], argTypes := #[44, 44] })
    (base lo : Nat) (v : Value) (n : Nat) (F : Nat → Int) (hs : a.eval s = v) (hown : OwnInts w base v n F)
    (A : Option Addr) (m c : Nat) (G : Nat → Int) (hx : a.eval x = .slice A m c) (hr : IntsAt w lo A m G) (hnm : n + m ≤ 1000000000) (hbase : base ≤ w.heap.size)
    (h : ∀ v' w', OwnInts w' base v' (n + m) (catF n F G) → Below base w w' → wpList Try.prog ops Q rest (a.put o.dst v') w') : wpList Try.prog ops Q (o :: rest) a w :=
  wpList_plain hgd fun _ hK => wp_append_ints w s x ho base lo v n F hs hown A m c G hx hr hnm hbase fun v' w' h1 h2 => hK _ _ (h v' w' h1 h2)

theorem step_append_ints {ops : Array Oper} {o : Oper} {a : Act} {K : Act → World → Prop} {Q : Exit → Act → World → Prop} {E : Prop} (w : World) (hgd : o.guard = none) (s x : Operand)
    (ho : o.op = .call { callee := .builtin .append, args := #[s, x], argTypes := #[44, 44] })
    (base lo : Nat) (v : Value) (n : Nat) (F : Nat → Int) (hs : a.eval s = v) (hown : OwnInts w base v n F)
    (A : Option Addr) (m c : Nat) (G : Nat → Int) (hx : a.eval x = .slice A m c) (hr : IntsAt w lo A m G) (hnm : n + m ≤ 1000000000) (hbase : base ≤ w.heap.size)
    (h : ∀ v' w', OwnInts w' base v' (n + m) (catF n F G) → Below base w w' → K (a.put o.dst v') w') :
    if Region.wanted o (yielded ops a.tmps) = true then Oper.wp Try.prog o a w K Q else E := by
  have hw : Region.wanted o (yielded ops a.tmps) = true := by simp [Region.wanted, hgd]
  rw [if_pos hw]
  exact wp_append_ints w s x ho base lo v n F hs hown A m c G hx hr hnm hbase h

/-- One new number behind a new block of one cell. -/
theorem IntsAt.one (w : World) (lo : Nat) (x : Int) (t : TypeId) (h : lo ≤ w.heap.size) : IntsAt (w.alloc (.cells #[.int .i64 x] t)) lo (some ⟨w.heap.size, 0, none⟩) 1 (fun _ => x) := fun k hk => by
  have hb : Box (w.alloc (.cells #[.int .i64 x] t)) w.heap.size t #[.int .i64 x] := Box.made rfl
  obtain rfl : k = 0 := by omega
  exact ⟨_, _, rfl, h, hb.lt, hb.at_ 0⟩

def intsB (n : Nat) (F : Nat → Int) (m : Nat) (G : Nat → Int) : Bool := n == m && (List.range n).all fun k => F k == G k
theorem intsB_iff {n m : Nat} {F G : Nat → Int} : intsB n F m G = true ↔ n = m ∧ ∀ k, k < n → F k = G k := by simp [intsB]

end Go.Proofs.Ytibdbopejnkefaa
/- Slices of api.WavePath in memory, those of the call's own, an append to one. -/
namespace Go.Proofs.Ytibdbopejnkefaa
open Go.RowKit
structure Pat where
  d : Int
  re : Int
  im : Int
theorem Pat.same {x y : Pat} (h0 : x.d = y.d) (h1 : x.re = y.re) (h2 : x.im = y.im) : x = y := by
  cases x; cases y; simp_all
def Pat.zero : Pat := ⟨0, 0, 0⟩
def Pat.part (x : Pat) (i : Nat) : Int := if i = 0 then x.d else if i = 1 then x.re else x.im
def PatsAt (w : World) (lo : Nat) (A : Option Addr) (n : Nat) (F : Nat → Pat) : Prop :=
  ∀ i, i < n → ∃ b o, A = some ⟨b, o, none⟩ ∧ lo ≤ b ∧ b < w.heap.size ∧ w.cell? ⟨b, o + i * 3, none⟩ = some (.int .i64 (F i).d) ∧ w.cell? ⟨b, o + i * 3 + 1, none⟩ = some (.int .i64 (F i).re) ∧ w.cell? ⟨b, o + i * 3 + 2, none⟩ = some (.int .i64 (F i).im)
section
variable {w w' : World} {lo n : Nat} {A : Option Addr} {F : Nat → Pat}
theorem PatsAt.nil_ : PatsAt w lo A 0 F := fun i h => absurd h (Nat.not_lt_zero i)
theorem PatsAt.below (h : PatsAt w lo A n F) (hb : Below w.heap.size w w') : PatsAt w' lo A n F := fun i hi => by
  obtain ⟨b, o, e, h1, h2, k0, k1, k2⟩ := h i hi
  exact ⟨b, o, e, h1, Nat.lt_of_lt_of_le h2 hb.size, (hb.cell (p := ⟨b, _, none⟩) h2).trans k0, (hb.cell (p := ⟨b, _, none⟩) h2).trans k1, (hb.cell (p := ⟨b, _, none⟩) h2).trans k2⟩
theorem PatsAt.alloc (h : PatsAt w lo A n F) (x : Obj) : PatsAt (w.alloc x) lo A n F := h.below ((Below.refl _ _).alloc (Nat.le_refl _) _)
theorem PatsAt.drewN (h : PatsAt w lo A n F) (m : Nat) : PatsAt (w.drewN m) lo A n F := h
theorem PatsAt.weak {lo' : Nat} (h : PatsAt w lo A n F) (hl : lo' ≤ lo) : PatsAt w lo' A n F := fun i hi => by
  obtain ⟨b, o, e, h1, h2⟩ := h i hi
  exact ⟨b, o, e, Nat.le_trans hl h1, h2⟩
theorem PatsAt.congr {G : Nat → Pat} (h : PatsAt w lo A n F) (e : ∀ i, i < n → F i = G i) : PatsAt w lo A n G := fun i hi => by
  rw [← e i hi]; exact h i hi
theorem PatsAt.fewer {m : Nat} (h : PatsAt w lo A n F) (hm : m ≤ n) : PatsAt w lo A m F := fun i hi => h i (Nat.lt_of_lt_of_le hi hm)
theorem PatsAt.one {b : Nat} {x : Pat} {t : TypeId} (h : Box w b t #[.int .i64 x.d, .int .i64 x.re, .int .i64 x.im]) : PatsAt w 0 (some ⟨b, 0, none⟩) 1 (fun _ => x) := fun i hi => by
  obtain rfl : i = 0 := by omega
  exact ⟨b, 0, rfl, Nat.zero_le _, h.lt, h.at_ 0, h.at_ 1, h.at_ 2⟩
end
def patVals (n : Nat) (F : Nat → Pat) : List Value := (List.range (n * 3)).map fun j => Value.int .i64 ((F (j / 3)).part (j % 3))
theorem patVals_len (n : Nat) (F : Nat → Pat) : (patVals n F).length = n * 3 := by simp [patVals]
theorem patVals_get (n : Nat) (F : Nat → Pat) (j : Nat) : (patVals n F)[j]? = if j < n * 3 then some (.int .i64 ((F (j / 3)).part (j % 3))) else none := by
  unfold patVals
  by_cases h : j < n * 3
  · rw [if_pos h]; simp [h]
  · rw [if_neg h, List.getElem?_eq_none (by simp; omega)]
theorem patVals_congr {n : Nat} {F G : Nat → Pat} (h : ∀ j, j < n → F j = G j) : patVals n F = patVals n G := by
  unfold patVals
  exact List.map_congr_left fun j hj => by
    have := List.mem_range.1 hj
    rw [h (j / 3) (by omega)]
def setPat (F : Nat → Pat) (k : Nat) (x : Pat) (j : Nat) : Pat := if j = k then x else F j
def OwnPats (w : World) (base : Nat) (v : Value) (n : Nat) (F : Nat → Pat) : Prop := w.ownsRow base 42 3 v n (patVals n F)
theorem OwnPats.congr {w : World} {base n : Nat} {v : Value} {F G : Nat → Pat} (h : OwnPats w base v n F) (e : ∀ j, j < n → F j = G j) : OwnPats w base v n G := by
  unfold OwnPats at h ⊢
  rwa [← patVals_congr e]
theorem OwnPats.drew {w : World} {base n : Nat} {v : Value} {F : Nat → Pat} (h : OwnPats w base v n F) : OwnPats w.drew base v n F := h
theorem OwnPats.drewN {w : World} {base n : Nat} {v : Value} {F : Nat → Pat} (h : OwnPats w base v n F) (q : Nat) : OwnPats (w.drewN q) base v n F := h
theorem OwnPats.alloc {w : World} {base n : Nat} {v : Value} {F : Nat → Pat} (h : OwnPats w base v n F) (o : Obj) : OwnPats (w.alloc o) base v n F := World.ownsRow.alloc h o
theorem OwnPats.below {w w' : World} {base n : Nat} {v : Value} {F : Nat → Pat} (h : OwnPats w base v n F) (hb : Below w.heap.size w w') : OwnPats w' base v n F :=
  World.ownsRow.kept h (row := none) ⟨hb.os, hb.tape, hb.output, hb.size, fun k hk _ => hb.block k hk⟩ (by cases v.ownBlock <;> simp)
theorem OwnPats.weak {w : World} {base base' n : Nat} {v : Value} {F : Nat → Pat} (h : OwnPats w base v n F) (hb : base' ≤ base) : OwnPats w base' v n F :=
  ⟨h.1, h.2.elim Or.inl (fun ⟨g, cap, cur, hv, hg, r⟩ => Or.inr ⟨g, cap, cur, hv, Nat.le_trans hb hg, r⟩)⟩
theorem OwnPats.lt {w : World} {base n g c : Nat} {F : Nat → Pat} (h : OwnPats w base (.slice (some ⟨g, 0, none⟩) n c) n F) : base ≤ g ∧ g < w.heap.size := World.ownsRow.lt h g rfl
theorem OwnPats.part {w : World} {base n g c : Nat} {F : Nat → Pat} (h : OwnPats w base (.slice (some ⟨g, 0, none⟩) n c) n F) {k i : Nat} (hk : k < n) (hi : i < 3) : w.cell? ⟨g, k * 3 + i, none⟩ = some (.int .i64 ((F k).part i)) := by
  rw [World.ownsRow.cellAt h (k * 3 + i) (by omega), patVals_get, if_pos (by omega), show (k * 3 + i) / 3 = k by omega, show (k * 3 + i) % 3 = i by omega]
theorem OwnPats.cells {w : World} {base n g c : Nat} {F : Nat → Pat} (h : OwnPats w base (.slice (some ⟨g, 0, none⟩) n c) n F) {k : Nat} (hk : k < n) :
    w.cell? ⟨g, k * 3, none⟩ = some (.int .i64 (F k).d) ∧ w.cell? ⟨g, k * 3 + 1, none⟩ = some (.int .i64 (F k).re) ∧ w.cell? ⟨g, k * 3 + 2, none⟩ = some (.int .i64 (F k).im) :=
  ⟨h.part hk (show 0 < 3 by decide), h.part hk (show 1 < 3 by decide), h.part hk (show 2 < 3 by decide)⟩
theorem OwnPats.frozen {w : World} {base n g c : Nat} {F : Nat → Pat} (h : OwnPats w base (.slice (some ⟨g, 0, none⟩) n c) n F) (k : Nat) : w.frozen? ⟨g, k, none⟩ = false := World.ownsRow.frozenAt h k
theorem OwnPats.nums {w : World} {base n c : Nat} {A : Option Addr} {F : Nat → Pat} (h : OwnPats w base (.slice A n c) n F) : PatsAt w base A n F := fun i hi => by
  rcases h.2 with ⟨e, hx⟩ | ⟨g, cap, cur, e, hb, hg, hnc, hm, hsz, htake⟩
  · omega
  · injection e with e1 e2 e3
    subst e1
    have h' : OwnPats w base (.slice (some ⟨g, 0, none⟩) n c) n F := h
    obtain ⟨k0, k1, k2⟩ := h'.cells hi
    exact ⟨g, 0, rfl, hb, (Array.getElem?_eq_some_iff.1 hg).1, by rwa [Nat.zero_add], by rwa [Nat.zero_add], by rwa [Nat.zero_add]⟩
theorem patInfo : (Try.prog.info? 42).map (fun i => (i.zero, i.size, i.bytes)) = some (some (.agg #[.int .i64 0, .int .i64 0, .int .i64 0]), 3, 24) := by kernel_rfl
def catPat (n : Nat) (F G : Nat → Pat) : Nat → Pat := fun j => if j < n then F j else G (j - n)
theorem patVals_cat (n m : Nat) (F G : Nat → Pat) : patVals n F ++ patVals m G = patVals (n + m) (catPat n F G) := by
  apply List.ext_getElem?
  intro j
  rw [List.getElem?_append, patVals_len, patVals_get, patVals_get, patVals_get]
  unfold catPat
  by_cases h1 : j < n * 3
  · rw [if_pos h1, if_pos h1, if_pos (by omega), if_pos (by omega)]
  · rw [if_neg h1]
    by_cases h2 : j - n * 3 < m * 3
    · rw [if_pos h2, if_pos (by omega), if_neg (by omega), show (j - n * 3) / 3 = j / 3 - n by omega, show (j - n * 3) % 3 = j % 3 by omega]
    · rw [if_neg h2, if_neg (by omega)]
theorem ownPats_nil (w : World) (base : Nat) (F : Nat → Pat) : OwnPats w base (.slice none 0 0) 0 F := World.ownsRow_nil _ _ _ _
theorem OwnPats.empty (w : World) (g : Nat) (hg : g = w.heap.size) (F : Nat → Pat) : OwnPats (w.alloc (.cells #[] 42)) w.heap.size (.slice (some ⟨g, 0, none⟩) 0 0) 0 F := by
  subst hg
  exact World.ownsRow_made w #[] 0 (Nat.le_refl _) (by decide) rfl
theorem ownPats_form {w : World} {base n : Nat} {v : Value} {F : Nat → Pat} (h : OwnPats w base v n F) : ∃ A c, v = .slice A n c ∧ n ≤ c ∧ PatsAt w base A n F := by
  rcases h.2 with ⟨rfl, hx⟩ | ⟨g, cap, cur, rfl, hb, hg, hnc, hm, hsz, htake⟩
  · subst hx
    exact ⟨_, _, rfl, Nat.le_refl _, PatsAt.nil_⟩
  · exact ⟨_, _, rfl, hnc, OwnPats.nums h⟩
theorem PatsAt.part {w : World} {lo n : Nat} {A : Option Addr} {F : Nat → Pat} (h : PatsAt w lo A n F) {j : Nat} (hj : j < n * 3) : ∃ b o, A = some ⟨b, o, none⟩ ∧ w.cell? ⟨b, o + j, none⟩ = some (.int .i64 ((F (j / 3)).part (j % 3))) := by
  obtain ⟨b, o, rfl, -, -, h0, h1, h2⟩ := h (j / 3) (by omega)
  refine ⟨b, o, rfl, ?_⟩
  have hlt := Nat.mod_lt j (show 0 < 3 by decide)
  have hd := Nat.div_add_mod j 3
  obtain e | e | e : j % 3 = 0 ∨ j % 3 = 1 ∨ j % 3 = 2 := by omega
  · rw [e, show o + j = o + j / 3 * 3 by omega]; exact h0
  · rw [e, show o + j = o + j / 3 * 3 + 1 by omega]; exact h1
  · rw [e, show o + j = o + j / 3 * 3 + 2 by omega]; exact h2
set_option maxRecDepth 100000 in
theorem run_append_Pats (w : World) (ty : TypeId) (base lo : Nat) (v : Value) (n : Nat) (F : Nat → Pat) (hown : OwnPats w base v n F)
    (A : Option Addr) (m c : Nat) (G : Nat → Pat) (hr : PatsAt w lo A m G) (hnm : n + m ≤ 100000000) (hbase : base ≤ w.heap.size) :
    ∃ v' w', (Builtin.append_ #[43, 43] ty #[v, .slice A m c]).run Try.prog w = .ok v' w' ∧ OwnPats w' base v' (n + m) (catPat n F G) ∧ Below base w w' ∧ w.grownBy w' v.ownBlock ∧ (v'.ownBlock = v.ownBlock ∨ v'.ownBlock = some w.heap.size) := by
  obtain ⟨i0, hi, hz0, hz1, hz2⟩ := info_parts patInfo
  cases A with
  | none =>
    have hm : m = 0 := by
      rcases Nat.eq_zero_or_pos m with h0 | h0
      · exact h0
      · obtain ⟨b, o, e, -⟩ := hr 0 h0
        cases e
    subst hm
    have hrun : (Builtin.append_ #[43, 43] ty #[v, .slice none 0 c]).run Try.prog w = .ok v w := by
      rcases hown.2 with ⟨rfl, -⟩ | ⟨g, cap, cur, rfl, -, -, hnc, -⟩
      · simp [Builtin.append_, run_underlying Try.underlying43, sizeOf, typeInfo, hi, Builtin.lenOf, Builtin.firstCells]
      · simp [Builtin.append_, run_underlying Try.underlying43, sizeOf, typeInfo, hi, Builtin.lenOf, Builtin.firstCells, hnc, storeCells]
    exact ⟨v, w, hrun, OwnPats.congr (F := F) hown fun j hj => by unfold catPat; rw [if_pos (show j < n by omega)], Below.refl _ _, ⟨rfl, rfl, rfl, Nat.le_refl _, fun _ _ _ => rfl⟩, .inl rfl⟩
  | some ad =>
    obtain ⟨v', w', hrun, hown', hg, -, hob⟩ := run_append_own_at (P := Try.prog) w base 43 ty 42 i0 (.agg #[.int .i64 0, .int .i64 0, .int .i64 0]) 3 24 Try.underlying43 hi hz0 hz1 hz2 rfl (by decide) v n _ hown ad m c (patVals m G) (by rw [patVals_len])
      (fun j u hu => by
        rw [patVals_get] at hu
        split at hu
        · rename_i hj
          obtain ⟨b, o, e, hc⟩ := hr.part hj
          injection e with e
          subst e
          injection hu with hu
          subst hu
          rw [Addr.add_lit]
          exact hc
        · cases hu)
      (fun u hu => by
        obtain ⟨j, -, rfl⟩ := List.mem_map.1 hu
        rfl) (by unfold maxLen; omega) (by omega) hbase
    rw [patVals_cat] at hown'
    exact ⟨v', w', hrun, hown', (Below.refl _ _).grown hg hbase (fun k hk => (World.ownsRow.lt hown k hk).1), hg, hob⟩
theorem wp_append_Pats {o : Oper} {a : Act} {K : Act → World → Prop} {Q : Exit → Act → World → Prop} (w : World) (s x : Operand)
    (ho : o.op = .call { callee := .builtin .append, args := #[s, x], argTypes := #[43, 43] })
    (base lo : Nat) (v : Value) (n : Nat) (F : Nat → Pat) (hs : a.eval s = v) (hown : OwnPats w base v n F)
    (A : Option Addr) (m c : Nat) (G : Nat → Pat) (hx : a.eval x = .slice A m c) (hr : PatsAt w lo A m G) (hnm : n + m ≤ 100000000) (hbase : base ≤ w.heap.size)
    (h : ∀ v' w', OwnPats w' base v' (n + m) (catPat n F G) → Below base w w' → w.grownBy w' v.ownBlock → (v'.ownBlock = v.ownBlock ∨ v'.ownBlock = some w.heap.size) → K (a.put o.dst v') w') : o.wp Try.prog a w K Q := by
  obtain ⟨v', w', hrun, h1, h2, h3, h4⟩ := run_append_Pats w o.type base lo v n F hown A m c G hr hnm hbase
  unfold Oper.wp execOp
  simp only [ho, resolve, invoke, builtin, Sem.run_bind, Sem.run_pure, Result.andThen_ok, List.map_toArray, List.map_cons, List.map_nil, hs, hx, hrun]
  exact h v' w' h1 h2 h3 h4
theorem wpList_append_Pats {ops : Array Oper} {rest : List Oper} {o : Oper} {a : Act} {Q : Exit → Act → World → Prop} (w : World) (hgd : o.guard = none) (s x : Operand)
    (ho : o.op = .call { callee := .builtin .append, args := #[s, x], argTypes := #[43, 43] })
    (base lo : Nat) (v : Value) (n : Nat) (F : Nat → Pat) (hs : a.eval s = v) (hown : OwnPats w base v n F)
    (A : Option Addr) (m c : Nat) (G : Nat → Pat) (hx : a.eval x = .slice A m c) (hr : PatsAt w lo A m G) (hnm : n + m ≤ 100000000) (hbase : base ≤ w.heap.size)
    (h : ∀ v' w', OwnPats w' base v' (n + m) (catPat n F G) → Below base w w' → wpList Try.prog ops Q rest (a.put o.dst v') w') : wpList Try.prog ops Q (o :: rest) a w :=
  wpList_plain hgd fun _ hK => wp_append_Pats w s x ho base lo v n F hs hown A m c G hx hr hnm hbase fun v' w' h1 h2 _ _ => hK _ _ (h v' w' h1 h2)
theorem stepG_append_Pats {ops : Array Oper} {o : Oper} {a : Act} {K : Act → World → Prop} {Q : Exit → Act → World → Prop} {E : Prop} (w : World) (hgd : o.guard = none) (s x : Operand)
    (ho : o.op = .call { callee := .builtin .append, args := #[s, x], argTypes := #[43, 43] })
    (base lo : Nat) (v : Value) (n : Nat) (F : Nat → Pat) (hs : a.eval s = v) (hown : OwnPats w base v n F)
    (A : Option Addr) (m c : Nat) (G : Nat → Pat) (hx : a.eval x = .slice A m c) (hr : PatsAt w lo A m G) (hnm : n + m ≤ 100000000) (hbase : base ≤ w.heap.size)
    (h : ∀ v' w', OwnPats w' base v' (n + m) (catPat n F G) → Below base w w' → w.grownBy w' v.ownBlock → (v'.ownBlock = v.ownBlock ∨ v'.ownBlock = some w.heap.size) → K (a.put o.dst v') w') :
    if Region.wanted o (yielded ops a.tmps) = true then Oper.wp Try.prog o a w K Q else E := by
  have hw : Region.wanted o (yielded ops a.tmps) = true := by simp [Region.wanted, hgd]
  rw [if_pos hw]
  exact wp_append_Pats w s x ho base lo v n F hs hown A m c G hx hr hnm hbase h
theorem step_append_Pats {ops : Array Oper} {o : Oper} {a : Act} {K : Act → World → Prop} {Q : Exit → Act → World → Prop} {E : Prop} (w : World) (hgd : o.guard = none) (s x : Operand)
    (ho : o.op = .call { callee := .builtin .append, args := #[s, x], argTypes := #[43, 43] })
    (base lo : Nat) (v : Value) (n : Nat) (F : Nat → Pat) (hs : a.eval s = v) (hown : OwnPats w base v n F)
    (A : Option Addr) (m c : Nat) (G : Nat → Pat) (hx : a.eval x = .slice A m c) (hr : PatsAt w lo A m G) (hnm : n + m ≤ 100000000) (hbase : base ≤ w.heap.size)
    (h : ∀ v' w', OwnPats w' base v' (n + m) (catPat n F G) → Below base w w' → K (a.put o.dst v') w') :
    if Region.wanted o (yielded ops a.tmps) = true then Oper.wp Try.prog o a w K Q else E := by
  have hw : Region.wanted o (yielded ops a.tmps) = true := by simp [Region.wanted, hgd]
  rw [if_pos hw]
  exact wp_append_Pats w s x ho base lo v n F hs hown A m c G hx hr hnm hbase fun v' w' h1 h2 _ _ => h v' w' h1 h2
end Go.Proofs.Ytibdbopejnkefaa
/- modulo, eighthsError, identityError of the code. -/
namespace Go.Proofs.Ytibdbopejnkefaa
open Go.RowKit
theorem tmod_facts (n : Int) (d : Nat) (h0 : 0 < d) : -(d : Int) < n.tmod d ∧ n.tmod d < d ∧ (n.tmod d + d).tmod d = n % d := by
  have hle : -(d : Int) < n.tmod d ∧ n.tmod d < d := by
    by_cases hn : 0 ≤ n
    · rw [Int.tmod_eq_emod_of_nonneg hn]
      have := Int.emod_nonneg n (show (d : Int) ≠ 0 by omega)
      have := Int.emod_lt_of_pos n (show (0 : Int) < d by omega)
      omega
    · have e := Int.neg_tmod (-n) d
      rw [Int.neg_neg] at e
      rw [e, Int.tmod_eq_emod_of_nonneg (show 0 ≤ -n by omega)]
      have := Int.emod_nonneg (-n) (show (d : Int) ≠ 0 by omega)
      have := Int.emod_lt_of_pos (-n) (show (0 : Int) < d by omega)
      omega
  refine ⟨hle.1, hle.2, ?_⟩
  rw [Int.tmod_eq_emod_of_nonneg (by omega)]
  have h3 := Int.mul_tdiv_add_tmod n d
  obtain ⟨r, hr⟩ : ∃ r, r = n.tmod d := ⟨_, rfl⟩
  rw [← hr] at h3 ⊢
  have e2 : n = r + d * (n.tdiv d) := by omega
  rw [Int.add_emod_right]
  conv => rhs; rw [e2]
  rw [Int.add_mul_emod_self_left]
set_option maxHeartbeats 400000 in
theorem modulo_any (n : Int) (d : Nat) (w : World) (h0 : 0 < d) (h1 : d ≤ 1000000000) :
    Calls Try.prog 39 #[.int .i64 n, .int .i64 (d : Int)] w fun e w' => e = .returned (.int .i64 (n % d)) ∧ w = w' := by
  have hd0 : ¬ (d : Int) = 0 := by omega
  obtain ⟨f1, f2, f3⟩ := tmod_facts n d h0
  obtain ⟨r, hr⟩ : ∃ r, n.tmod (d : Int) = r := ⟨_, rfl⟩
  obtain ⟨z, hz⟩ : ∃ z, n % (d : Int) = z := ⟨_, rfl⟩
  rw [hr] at f1 f2 f3
  rw [hz] at f3 ⊢
  have q1 : IntKind.i64.wrap (r + (d : Int)) = r + (d : Int) := IntWalk.i64_in _ (by omega)
  clear hz
  go_enter Try.func39, Try.ntmps39
  go_wp2_with fail
  go_ret
  exact ⟨rfl, rfl⟩
set_option maxHeartbeats 400000 in
theorem eighthsError_any (n : Int) (w : World) :
    Calls Try.prog 22 #[.int .i64 n] w fun e w' => e = .returned (.int .i64 (unI (withinB n 0 7) 2)) ∧ w = w' := by
  go_enter Try.func22, Try.ntmps22
  go_wp2_with (first | (go_at_call 42; refine (isWithin_any _ _ _ _).mono ?_; rintro e w' ⟨rfl, rfl⟩) | (go_at_call 29; refine (unless_any _ _ _).mono ?_; rintro e w' ⟨rfl, rfl⟩))
  go_ret
  exact ⟨rfl, rfl⟩
set_option maxHeartbeats 400000 in
theorem identityError_any (n : Int) (w : World) :
    Calls Try.prog 27 #[.int .i64 n] w fun e w' => e = .returned (.int .i64 (unI (withinB n 0 1007) 2)) ∧ w = w' := by
  go_enter Try.func27, Try.ntmps27
  go_wp2_with (first | (go_at_call 42; refine (isWithin_any _ _ _ _).mono ?_; rintro e w' ⟨rfl, rfl⟩) | (go_at_call 29; refine (unless_any _ _ _).mono ?_; rintro e w' ⟨rfl, rfl⟩))
  go_ret
  exact ⟨rfl, rfl⟩
end Go.Proofs.Ytibdbopejnkefaa
/- Structs of four numbers in memory; turned, times. -/
namespace Go.Proofs.Ytibdbopejnkefaa
open Go.RowKit
theorem Box.put4 {w : World} {b : Nat} {t : TypeId} {p0 p1 p2 p3 : Value} (h : Box w b t #[p0, p1, p2, p3]) (u0 u1 u2 u3 : Value) : Box ((((w.setCell ⟨b, 0, none⟩ u0).setCell ⟨b, 1, none⟩ u1).setCell ⟨b, 2, none⟩ u2).setCell ⟨b, 3, none⟩ u3) b t #[u0, u1, u2, u3] := by
  have := (((h.set_ 0 u0).set_ 1 u1).set_ 2 u2).set_ 3 u3
  simpa using this
theorem Box.cells4 {w : World} {b : Nat} {t : TypeId} {p0 p1 p2 p3 : Value} (h : Box w b t #[p0, p1, p2, p3]) :
    w.cell? ⟨b, 0, none⟩ = some p0 ∧ w.cell? ⟨b, 1, none⟩ = some p1 ∧ w.cell? ⟨b, 2, none⟩ = some p2 ∧ w.cell? ⟨b, 3, none⟩ = some p3 ∧ w.frozen? ⟨b, 0, none⟩ = false ∧ w.frozen? ⟨b, 1, none⟩ = false ∧ w.frozen? ⟨b, 2, none⟩ = false ∧ w.frozen? ⟨b, 3, none⟩ = false ∧ b < w.heap.size :=
  ⟨h.at_ 0, h.at_ 1, h.at_ 2, h.at_ 3, h.free 0, h.free 1, h.free 2, h.free 3, h.lt⟩
theorem Box.other4 {w : World} {b c : Nat} {t : TypeId} {cs : Array Value} (h : Box w b t cs) (hn : b ≠ c) (u0 u1 u2 u3 : Value) : Box ((((w.setCell ⟨c, 0, none⟩ u0).setCell ⟨c, 1, none⟩ u1).setCell ⟨c, 2, none⟩ u2).setCell ⟨c, 3, none⟩ u3) b t cs :=
  (((h.other (p := ⟨c, 0, none⟩) hn u0).other (p := ⟨c, 1, none⟩) hn u1).other (p := ⟨c, 2, none⟩) hn u2).other (p := ⟨c, 3, none⟩) hn u3
theorem Below.put4 {B c : Nat} {w W : World} (h : Below B w W) (hc : B ≤ c) (u0 u1 u2 u3 : Value) : Below B w ((((W.setCell ⟨c, 0, none⟩ u0).setCell ⟨c, 1, none⟩ u1).setCell ⟨c, 2, none⟩ u2).setCell ⟨c, 3, none⟩ u3) :=
  (((h.setCell hc u0).setCell hc u1).setCell hc u2).setCell hc u3
theorem modulo8 (n : Int) (w : World) : Calls Try.prog 39 #[.int .i64 n, .int .i64 8] w fun e w' => e = .returned (.int .i64 (n % 8)) ∧ w = w' := modulo_any n 8 w (by decide) (by decide)
set_option maxHeartbeats 2000000 in
theorem turned_any (x : Num) (n : Int) (w : World) (hx : x.Within 4611686018427387904) :
    Calls Try.prog 23 #[.agg #[.int .i64 x.a, .int .i64 x.b, .int .i64 x.c, .int .i64 x.d], .int .i64 n] w fun e w' => e = .returned (.agg #[.int .i64 (x.turns (n % 8).toNat).a, .int .i64 (x.turns (n % 8).toNat).b, .int .i64 (x.turns (n % 8).toNat).c, .int .i64 (x.turns (n % 8).toNat).d]) ∧ Below w.heap.size w w' := by
  have HX := hide hx
  clear hx
  obtain ⟨k, hk⟩ : ∃ k, k = (n % 8).toNat := ⟨_, rfl⟩
  have hkz : n % 8 = (k : Int) := by have := Int.emod_nonneg n (show (8 : Int) ≠ 0 by decide); omega
  have hk8 : k < 8 := by have := Int.emod_lt_of_pos n (show (0 : Int) < 8 by decide); omega
  rw [← hk]
  have HM := hide (fun W => modulo8 n W)
  rw [hkz] at HM
  clear hk hkz
  go_enter Try.func23, Try.ntmps23
  go_wp2_with (go_at_call 39; refine (HM.out _).mono ?_; rintro e w' ⟨rfl, rfl⟩)
  go_loopw [7] (fun i wr => ∃ j : Nat, j ≤ k ∧ i = .int .i64 (j : Int) ∧ Box wr w.heap.size 35 #[.int .i64 (x.turns j).a, .int .i64 (x.turns j).b, .int .i64 (x.turns j).c, .int .i64 (x.turns j).d] ∧ Box wr (w.heap.size + 1) 35 #[.int .i64 0, .int .i64 0, .int .i64 0, .int .i64 0] ∧ Below w.heap.size w wr) (fun i _ => k - (Go.RowKit.intOf i).toNat)
  case atStart => exact ⟨0, Nat.zero_le _, rfl, (Box.made rfl).alloc _, Box.made (by simp), by (repeat (first | (with_reducible exact Below.refl _ _) | (with_reducible refine Go.below_drewN ?_ _) | (with_reducible refine Below.drew ?_) | (with_reducible refine Below.alloc ?_ (by first | exact Nat.le_refl _ | (simp; done) | (simp; omega) | omega) _) | (with_reducible refine Below.setCell ?_ (by first | exact Nat.le_refl _ | (simp; done) | (simp; omega) | omega) _)))⟩
  case round =>
    obtain ⟨j, hj, rfl, bx, by', hB⟩ := hrel
    have hy := HX.out.turns j
    have HT := hide (show x.turns (j + 1) = (x.turns j).turn from rfl)
    obtain ⟨y, hyx⟩ : ∃ y, x.turns j = y := ⟨_, rfl⟩
    rw [hyx] at bx hy HT
    have HYX := hide hyx
    clear hyx
    obtain ⟨h1, h2, h3, h4⟩ := hy
    obtain ⟨z0, z1, z2, z3, f0, f1, f2, f3, hl⟩ := bx.cells4
    by_cases hlt : j < k
    · have hltz : (j : Int) < (k : Int) := by omega
      have q1 : IntKind.i64.wrap (-y.d) = -y.d := IntWalk.i64_in _ (by omega)
      have HBX := hide (bx.put4 (.int .i64 (-y.d)) (.int .i64 y.a) (.int .i64 y.b) (.int .i64 y.c))
      have HBY := hide (by'.other4 (c := w.heap.size) (by omega) (.int .i64 (-y.d)) (.int .i64 y.a) (.int .i64 y.b) (.int .i64 y.c))
      have HBL := hide (Below.put4 hB (Nat.le_refl _) (.int .i64 (-y.d)) (.int .i64 y.a) (.int .i64 y.b) (.int .i64 y.c))
      clear bx by' hB h1 h2 h3 h4
      go_wp2_with fail
      go_roundw
      case rel => exact ⟨j + 1, by omega, by go_num, by rw [HT.out]; exact HBX.out, HBY.out, HBL.out⟩
      case measure => simp [Go.RowKit.intOf]; omega
    · obtain rfl : j = k := by omega
      obtain ⟨y0, y1, y2, y3, g0, g1, g2, g3, hl'⟩ := by'.cells4
      have HBY := hide (by'.put4 (.int .i64 y.a) (.int .i64 y.b) (.int .i64 y.c) (.int .i64 y.d))
      have HBL := hide (Below.put4 hB (Nat.le_succ _) (.int .i64 y.a) (.int .i64 y.b) (.int .i64 y.c) (.int .i64 y.d))
      clear bx by' hB h1 h2 h3 h4
      go_wp2_with fail
      refine bodyPost_ret (v := .agg #[.int .i64 y.a, .int .i64 y.b, .int .i64 y.c, .int .i64 y.d]) ?_ rfl ⟨by rw [HYX.out], HBL.out⟩
      obtain ⟨y0, y1, y2, y3, -⟩ := HBY.out.cells4
      simp [results, Try.results23, go_sem, y0, y1, y2, y3]
set_option maxHeartbeats 2000000 in
theorem times_any (n : Int) (x : Num) (M N : Int) (w : World) (hx : x.Within M) (hn : -N ≤ n ∧ n ≤ N) (hM : N * M ≤ 9223372036854775807) :
    Calls Try.prog 52 #[.int .i64 n, .agg #[.int .i64 x.a, .int .i64 x.b, .int .i64 x.c, .int .i64 x.d]] w fun e w' => e = .returned (.agg #[.int .i64 (n * x.a), .int .i64 (n * x.b), .int .i64 (n * x.c), .int .i64 (n * x.d)]) ∧ Below w.heap.size w w' := by
  obtain ⟨h1, h2, h3, h4⟩ := hx.times hn
  have q1 : IntKind.i64.wrap (n * x.a) = n * x.a := IntWalk.i64_in _ (by have : -(N * M) ≤ n * x.a ∧ n * x.a ≤ N * M := h1; omega)
  have q2 : IntKind.i64.wrap (n * x.b) = n * x.b := IntWalk.i64_in _ (by have : -(N * M) ≤ n * x.b ∧ n * x.b ≤ N * M := h2; omega)
  have q3 : IntKind.i64.wrap (n * x.c) = n * x.c := IntWalk.i64_in _ (by have : -(N * M) ≤ n * x.c ∧ n * x.c ≤ N * M := h3; omega)
  have q4 : IntKind.i64.wrap (n * x.d) = n * x.d := IntWalk.i64_in _ (by have : -(N * M) ≤ n * x.d ∧ n * x.d ≤ N * M := h4; omega)
  clear h1 h2 h3 h4 hx hn hM
  go_enter Try.func52, Try.ntmps52
  go_wp2_with fail
  have hb : Box ((w.alloc (.cells #[.int .i64 x.a, .int .i64 x.b, .int .i64 x.c, .int .i64 x.d] 35)).alloc (.cells #[.int .i64 (n * x.a), .int .i64 (n * x.b), .int .i64 (n * x.c), .int .i64 (n * x.d)] 35)) (w.heap.size + 1) 35 #[.int .i64 (n * x.a), .int .i64 (n * x.b), .int .i64 (n * x.c), .int .i64 (n * x.d)] := Box.made (by simp)
  obtain ⟨y0, y1, y2, y3, -⟩ := hb.cells4
  refine bodyPost_ret (v := .agg #[.int .i64 (n * x.a), .int .i64 (n * x.b), .int .i64 (n * x.c), .int .i64 (n * x.d)]) ?_ rfl ⟨rfl, by (repeat (first | (with_reducible exact Below.refl _ _) | (with_reducible refine Go.below_drewN ?_ _) | (with_reducible refine Below.drew ?_) | (with_reducible refine Below.alloc ?_ (by first | exact Nat.le_refl _ | (simp; done) | (simp; omega) | omega) _) | (with_reducible refine Below.setCell ?_ (by first | exact Nat.le_refl _ | (simp; done) | (simp; omega) | omega) _)))⟩
  simp [results, Try.results52, go_sem, y0, y1, y2, y3]
end Go.Proofs.Ytibdbopejnkefaa
