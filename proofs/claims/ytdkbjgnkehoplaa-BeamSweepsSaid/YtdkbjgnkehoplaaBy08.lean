/- Lemmas: E10, E11, E12, E7. -/
import Derived.Laws.OwnMore
import Derived.OwnWalk
import Derived.Shelf.Abstract
import Derived.Maps.Own
import Derived.Maps.Views
import Derived.Carry
import Derived.Test.YtdkbjgnkehoplaaBy03
import Derived.Test.YtdkbjgnkehoplaaBy07
set_option linter.unusedVariables false
set_option linter.unusedSimpArgs false
/- Slices of looks that the call made: structs of a slice of eight phases and two numbers; an append to one. -/
namespace Go.Proofs.Ytdkbjgnkehoplaa
open Go.RowKit Go.Shelf
/-- The cells of n looks: phases F, gains P and Q. -/
def LooksIn (w : World) (lo : Nat) (v : Value) (xs : List Value) (n : Nat) (F : Nat → Nat → Int) (P Q : Nat → Int) : Prop :=
  ∀ i, i < n → ∃ Ai ci, xs[i * 3]? = some (.slice Ai 8 ci) ∧ xs[i * 3 + 1]? = some (.int .i64 (P i)) ∧ xs[i * 3 + 2]? = some (.int .i64 (Q i)) ∧ IntsAt w lo Ai 8 (F i) ∧ ∀ b o, Ai = some ⟨b, o, none⟩ → v.ownBlock ≠ some b ∧ b < w.heap.size
def OwnLooks (w : World) (base : Nat) (v : Value) (n : Nat) (F : Nat → Nat → Int) (P Q : Nat → Int) : Prop :=
  ∃ xs : List Value, w.ownsRow base 141 3 v n xs ∧ LooksIn w base v xs n F P Q
/-- A slice of n looks. -/
def LooksAt (w : World) (lo : Nat) (A : Option Addr) (n : Nat) (F : Nat → Nat → Int) (P Q : Nat → Int) : Prop :=
  ∀ i, i < n → ∃ b o Ai ci, A = some ⟨b, o, none⟩ ∧ b < w.heap.size ∧ w.cell? ⟨b, o + i * 3, none⟩ = some (.slice Ai 8 ci) ∧ w.cell? ⟨b, o + i * 3 + 1, none⟩ = some (.int .i64 (P i)) ∧ w.cell? ⟨b, o + i * 3 + 2, none⟩ = some (.int .i64 (Q i)) ∧ IntsAt w lo Ai 8 (F i)
section
variable {w w' : World} {base n : Nat} {v : Value} {F : Nat → Nat → Int} {P Q : Nat → Int}
theorem OwnLooks.nil_ (w : World) (base : Nat) (F : Nat → Nat → Int) (P Q : Nat → Int) : OwnLooks w base (.slice none 0 0) 0 F P Q := ⟨[], World.ownsRow_nil _ _ _ _, fun i h => absurd h (Nat.not_lt_zero i)⟩
theorem LooksAt.below {lo : Nat} {A : Option Addr} (h : LooksAt w lo A n F P Q) (hb : Below w.heap.size w w') : LooksAt w' lo A n F P Q := fun i hi => by
  obtain ⟨b, o, Ai, ci, e, h1, h2, h3, h4, h5⟩ := h i hi
  exact ⟨b, o, Ai, ci, e, Nat.lt_of_lt_of_le h1 hb.size, (hb.cell (p := ⟨b, _, none⟩) h1).trans h2, (hb.cell (p := ⟨b, _, none⟩) h1).trans h3, (hb.cell (p := ⟨b, _, none⟩) h1).trans h4, h5.below hb⟩
theorem OwnLooks.below (h : OwnLooks w base v n F P Q) (hb : Below w.heap.size w w') : OwnLooks w' base v n F P Q := by
  obtain ⟨xs, h1, h2⟩ := h
  refine ⟨xs, World.ownsRow.kept h1 (row := none) ⟨hb.os, hb.tape, hb.output, hb.size, fun k hk _ => hb.block k hk⟩ (by cases v.ownBlock <;> simp), fun i hi => ?_⟩
  obtain ⟨Ai, ci, e0, e1, e2, h5, h6⟩ := h2 i hi
  exact ⟨Ai, ci, e0, e1, e2, h5.below hb, fun b o e => ⟨(h6 b o e).1, Nat.lt_of_lt_of_le (h6 b o e).2 hb.size⟩⟩
theorem OwnLooks.alloc (h : OwnLooks w base v n F P Q) (o : Obj) : OwnLooks (w.alloc o) base v n F P Q := h.below ((Below.refl _ _).alloc (Nat.le_refl _) _)
theorem OwnLooks.grown {row : Option Nat} (h : OwnLooks w base v n F P Q) (hg : w.grownBy w' row) (hr : ∀ b, row = some b → b < base) : OwnLooks w' base v n F P Q := by
  obtain ⟨xs, h1, h2⟩ := h
  refine ⟨xs, World.ownsRow.kept h1 hg ?_, fun i hi => ?_⟩
  · cases hv : v.ownBlock with
    | none => exact .inl rfl
    | some k =>
      refine .inr (fun e => ?_)
      have := (World.ownsRow.lt h1 k hv).1
      have := hr k e.symm
      omega
  · obtain ⟨Ai, ci, e0, e1, e2, h5, h6⟩ := h2 i hi
    refine ⟨Ai, ci, e0, e1, e2, h5.grown hg (fun b o e x => ?_), fun b o e => ⟨(h6 b o e).1, Nat.lt_of_lt_of_le (h6 b o e).2 hg.size⟩⟩
    subst e
    have := hr b x
    obtain ⟨b', o', e', g1, -⟩ := h5 0 (by decide)
    injection e' with e'
    injection e' with e' _
    omega
theorem OwnLooks.lt (h : OwnLooks w base v n F P Q) {k : Nat} (hk : v.ownBlock = some k) : base ≤ k ∧ k < w.heap.size := by
  obtain ⟨xs, h1, -⟩ := h
  exact World.ownsRow.lt h1 k hk
theorem OwnLooks.form (h : OwnLooks w base v n F P Q) : ∃ A c, v = .slice A n c ∧ n ≤ c ∧ c ≤ 9223372036854775807 ∧ LooksAt w base A n F P Q := by
  obtain ⟨xs, h1, h2⟩ := h
  have hm9 : maxLen ≤ 9223372036854775807 := by decide
  rcases h1.2 with ⟨rfl, rfl⟩ | ⟨g, cap, cur, rfl, hb, hg, hnc, hm, -⟩
  · exact ⟨_, _, rfl, Nat.le_refl _, by decide, fun i h => absurd h (Nat.not_lt_zero i)⟩
  · refine ⟨_, _, rfl, hnc, by omega, fun i hi => ?_⟩
    obtain ⟨Ai, ci, e0, e1, e2, h5, h6⟩ := h2 i hi
    have c0 := World.ownsRow.cells h1 (g := g) rfl _ _ e0
    have c1 := World.ownsRow.cells h1 (g := g) rfl _ _ e1
    have c2 := World.ownsRow.cells h1 (g := g) rfl _ _ e2
    rw [Addr.add_lit] at c0 c1 c2
    rw [← Nat.add_assoc] at c1 c2
    exact ⟨g, 0, Ai, ci, rfl, (Array.getElem?_eq_some_iff.1 hg).1, c0, c1, c2, h5⟩
theorem OwnLooks.congr {F' : Nat → Nat → Int} {P' Q' : Nat → Int} (h : OwnLooks w base v n F P Q) (e : ∀ i, i < n → F i = F' i ∧ P i = P' i ∧ Q i = Q' i) : OwnLooks w base v n F' P' Q' := by
  obtain ⟨xs, h1, h2⟩ := h
  refine ⟨xs, h1, fun i hi => ?_⟩
  obtain ⟨e1, e2, e3⟩ := e i hi
  rw [← e1, ← e2, ← e3]
  exact h2 i hi
end
def catA {α : Type} (n : Nat) (f g : Nat → α) (j : Nat) : α := if j < n then f j else g (j - n)
theorem lookInfo : (Try.prog.info? 141).map (fun i => (i.zero, i.size, i.bytes)) = some (some (.agg #[.slice none 0 0, .int .i64 0, .int .i64 0]), 3, 40) := by kernel_rfl
set_option maxRecDepth 100000 in
theorem run_append_looks (w : World) (ty : TypeId) (base : Nat) (v : Value) (n : Nat) (F : Nat → Nat → Int) (P Q : Nat → Int) (hown : OwnLooks w base v n F P Q)
    (ad : Addr) (m c : Nat) (F' : Nat → Nat → Int) (P' Q' : Nat → Int) (ys : List Value) (hlen : ys.length = m * 3) (hr : ∀ j u, ys[j]? = some u → w.cell? (ad.add j) = some u) (hone : ∀ u ∈ ys, u.oneCell' = true) (hr2 : LooksIn w base v ys m F' P' Q') (hnm : n + m ≤ 1000000) (hbase : base ≤ w.heap.size) :
    ∃ v' w', (Builtin.append_ #[92, 92] ty #[v, .slice (some ad) m c]).run Try.prog w = .ok v' w' ∧ OwnLooks w' base v' (n + m) (catA n F F') (catA n P P') (catA n Q Q') ∧ Below base w w' ∧ w.grownBy w' v.ownBlock := by
  obtain ⟨i0, hi, hz0, hz1, hz2⟩ := info_parts lookInfo
  obtain ⟨xs, h1, h2⟩ := hown
  have hxl : xs.length = n * 3 := h1.1
  obtain ⟨v', w', hrun, hown', hg, -, hblk⟩ := run_append_own_at (P := Try.prog) w base 92 ty 141 i0 (.agg #[.slice none 0 0, .int .i64 0, .int .i64 0]) 3 40 Try.underlying92 hi hz0 hz1 hz2 rfl (by decide) v n xs h1 ad m c ys hlen hr hone (by unfold maxLen; omega) (by omega) hbase
  refine ⟨v', w', hrun, ⟨_, hown', fun i hi => ?_⟩, (Below.refl _ _).grown hg hbase (fun k hk => (World.ownsRow.lt h1 k hk).1), hg⟩
  have apart : ∀ (B : Option Addr), (∀ b o, B = some ⟨b, o, none⟩ → v.ownBlock ≠ some b ∧ b < w.heap.size) → ∀ b o, B = some ⟨b, o, none⟩ → v'.ownBlock ≠ some b ∧ b < w'.heap.size := fun B hB b o e => by
    obtain ⟨x1, x2⟩ := hB b o e
    refine ⟨?_, Nat.lt_of_lt_of_le x2 hg.size⟩
    rcases hblk with y | y
    · rw [y]; exact x1
    · rw [y]; intro z; injection z with z; omega
  unfold catA
  by_cases hin : i < n
  · obtain ⟨Ai, ci, e0, e1, e2, h5, h6⟩ := h2 i hin
    rw [if_pos hin, if_pos hin, if_pos hin]
    exact ⟨Ai, ci, by rw [List.getElem?_append_left (by omega)]; exact e0, by rw [List.getElem?_append_left (by omega)]; exact e1, by rw [List.getElem?_append_left (by omega)]; exact e2, h5.grown hg (fun b o e => (h6 b o e).1), apart _ h6⟩
  · obtain ⟨Ai, ci, e0, e1, e2, h5, h6⟩ := hr2 (i - n) (by omega)
    rw [if_neg hin, if_neg hin, if_neg hin]
    refine ⟨Ai, ci, ?_, ?_, ?_, h5.grown hg (fun b o e => (h6 b o e).1), apart _ h6⟩
    · rw [List.getElem?_append_right (by omega), hxl, show i * 3 - n * 3 = (i - n) * 3 by omega]; exact e0
    · rw [List.getElem?_append_right (by omega), hxl, show i * 3 + 1 - n * 3 = (i - n) * 3 + 1 by omega]; exact e1
    · rw [List.getElem?_append_right (by omega), hxl, show i * 3 + 2 - n * 3 = (i - n) * 3 + 2 by omega]; exact e2
theorem wpList_append_looks {ops : Array Oper} {rest : List Oper} {o : Oper} {a : Act} {Q0 : Exit → Act → World → Prop} (w : World) (hgd : o.guard = none) (s x : Operand)
    (ho : o.op = .call { callee := .builtin .append, args := #[s, x], argTypes := #[92, 92] })
    (base : Nat) (v : Value) (n : Nat) (F : Nat → Nat → Int) (P Q : Nat → Int) (hs : a.eval s = v) (hown : OwnLooks w base v n F P Q)
    (ad : Addr) (m c : Nat) (F' : Nat → Nat → Int) (P' Q' : Nat → Int) (ys : List Value) (hx : a.eval x = .slice (some ad) m c) (hlen : ys.length = m * 3) (hr : ∀ j u, ys[j]? = some u → w.cell? (ad.add j) = some u) (hone : ∀ u ∈ ys, u.oneCell' = true) (hr2 : LooksIn w base v ys m F' P' Q') (hnm : n + m ≤ 1000000) (hbase : base ≤ w.heap.size)
    (h : ∀ v' w', OwnLooks w' base v' (n + m) (catA n F F') (catA n P P') (catA n Q Q') → Below base w w' → w.grownBy w' v.ownBlock → wpList Try.prog ops Q0 rest (a.put o.dst v') w') : wpList Try.prog ops Q0 (o :: rest) a w :=
  wpList_plain hgd fun _ hK => by
    obtain ⟨v', w', hrun, h1, h2, h3⟩ := run_append_looks w o.type base v n F P Q hown ad m c F' P' Q' ys hlen hr hone hr2 hnm hbase
    unfold Oper.wp execOp
    simp only [ho, resolve, invoke, builtin, Sem.run_bind, Sem.run_pure, Result.andThen_ok, List.map_toArray, List.map_cons, List.map_nil, hs, hx, hrun]
    exact hK _ _ (h v' w' h1 h2 h3)
/-- One look in a block of its own. -/
theorem looks_one {w : World} {lo g : Nat} {t : TypeId} {v : Value} {A : Option Addr} {p q : Int} {F : Nat → Int} {c : Nat} (hb : Box w g t #[.slice A 8 c, .int .i64 p, .int .i64 q]) (hI : IntsAt w lo A 8 F) (ha : ∀ b o, A = some ⟨b, o, none⟩ → v.ownBlock ≠ some b ∧ b < w.heap.size) :
    (∀ j u, ([.slice A 8 c, .int .i64 p, .int .i64 q] : List Value)[j]? = some u → w.cell? ((⟨g, 0, none⟩ : Addr).add j) = some u) ∧ LooksIn w lo v [.slice A 8 c, .int .i64 p, .int .i64 q] 1 (fun _ => F) (fun _ => p) (fun _ => q) := by
  refine ⟨fun j u hu => ?_, fun i hi => ?_⟩
  · rw [Addr.add_lit, Nat.zero_add, hb.at_ j, List.getElem?_toArray]
    exact hu
  · obtain rfl : i = 0 := by omega
    exact ⟨A, c, rfl, rfl, rfl, hI, ha⟩
/-- Two looks in a block of its own. -/
theorem looks_two {w : World} {lo g : Nat} {t : TypeId} {v : Value} {A B : Option Addr} {c d : Nat} {p q r s : Int} {F G : Nat → Int} (hb : Box w g t #[.slice A 8 c, .int .i64 p, .int .i64 q, .slice B 8 d, .int .i64 r, .int .i64 s]) (hI : IntsAt w lo A 8 F) (hJ : IntsAt w lo B 8 G) (ha : ∀ b o, A = some ⟨b, o, none⟩ → v.ownBlock ≠ some b ∧ b < w.heap.size) (hb2 : ∀ b o, B = some ⟨b, o, none⟩ → v.ownBlock ≠ some b ∧ b < w.heap.size) :
    (∀ j u, ([.slice A 8 c, .int .i64 p, .int .i64 q, .slice B 8 d, .int .i64 r, .int .i64 s] : List Value)[j]? = some u → w.cell? ((⟨g, 0, none⟩ : Addr).add j) = some u) ∧ LooksIn w lo v [.slice A 8 c, .int .i64 p, .int .i64 q, .slice B 8 d, .int .i64 r, .int .i64 s] 2 (fun j => if j = 0 then F else G) (fun j => if j = 0 then p else r) (fun j => if j = 0 then q else s) := by
  refine ⟨fun j u hu => ?_, fun i hi => ?_⟩
  · rw [Addr.add_lit, Nat.zero_add, hb.at_ j, List.getElem?_toArray]
    exact hu
  · have : i = 0 ∨ i = 1 := by omega
    rcases this with rfl | rfl
    · exact ⟨A, c, rfl, rfl, rfl, hI, ha⟩
    · exact ⟨B, d, rfl, rfl, rfl, hJ, hb2⟩
end Go.Proofs.Ytdkbjgnkehoplaa
/- The mathematics of refining, and a map from numbers to looks that the call made. -/
namespace Go.Proofs.Ytdkbjgnkehoplaa
open Go.RowKit Go.Shelf
theorem mul8 {x y : Int} (hx : -8 ≤ x ∧ x ≤ 8) (hy : -8 ≤ y ∧ y ≤ 8) : -64 ≤ x * y ∧ x * y ≤ 64 := by
  obtain ⟨x1, x2⟩ := hx
  obtain ⟨y1, y2⟩ := hy
  have a1 := Int.mul_nonneg (show 0 ≤ 8 - x by omega) (show 0 ≤ 8 - y by omega)
  have a2 := Int.mul_nonneg (show 0 ≤ 8 + x by omega) (show 0 ≤ 8 + y by omega)
  have a3 := Int.mul_nonneg (show 0 ≤ 8 - x by omega) (show 0 ≤ 8 + y by omega)
  have a4 := Int.mul_nonneg (show 0 ≤ 8 + x by omega) (show 0 ≤ 8 - y by omega)
  have e1 : (8 - x) * (8 - y) = 64 - 8 * x - 8 * y + x * y := by grind
  have e2 : (8 + x) * (8 + y) = 64 + 8 * x + 8 * y + x * y := by grind
  have e3 : (8 - x) * (8 + y) = 64 - 8 * x + 8 * y - x * y := by grind
  have e4 : (8 + x) * (8 - y) = 64 + 8 * x - 8 * y - x * y := by grind
  rw [e1] at a1
  rw [e2] at a2
  rw [e3] at a3
  rw [e4] at a4
  constructor <;> omega
theorem lkN_bounds (k a s : Nat) : (-256 ≤ (lkN k a s).sqP ∧ (lkN k a s).sqP ≤ 256) ∧ -256 ≤ (lkN k a s).sqQ ∧ (lkN k a s).sqQ ≤ 256 := by
  have h : (lkN k a s).Within 8 := rsN_within (stF k a) s 8
  generalize lkN k a s = x at h
  obtain ⟨a, b, c, d⟩ := h
  have h1 := mul8 a a
  have h2 := mul8 b b
  have h3 := mul8 c c
  have h4 := mul8 d d
  have h5 := mul8 a b
  have h6 := mul8 b c
  have h7 := mul8 c d
  have h8 := mul8 a d
  have hP : x.sqP = x.a * x.a + x.b * x.b + x.c * x.c + x.d * x.d := rfl
  have hQ : x.sqQ = x.a * x.b + x.b * x.c + x.c * x.d - x.a * x.d := rfl
  rw [hP, hQ]
  omega
/-- Behind r rounds of refining. -/
def rfK (t : Nat) : Nat → Nat
  | 0 => 0
  | r + 1 => if 0 < compI ((lkN (rfK t r + 2 ^ r) (4 / 2 ^ r) t).sqP - (lkN (rfK t r) (4 / 2 ^ r) t).sqP) ((lkN (rfK t r) (4 / 2 ^ r) t).sqQ - (lkN (rfK t r + 2 ^ r) (4 / 2 ^ r) t).sqQ) then rfK t r + 2 ^ r else rfK t r
theorem rfK_lt (t r : Nat) : rfK t r < 2 ^ r := by
  induction r with
  | zero => exact Nat.one_pos
  | succ r ih =>
    unfold rfK
    rw [Nat.pow_succ]
    split <;> omega
/-- The look j of refining: its beam, the antennas that are on, its gain. -/
def rK (t j : Nat) : Nat := rfK t (j / 2) + (j % 2) * 2 ^ (j / 2)
def rA (j : Nat) : Nat := 4 / 2 ^ (j / 2)
def rfF (t j : Nat) : Nat → Int := stF (rK t j) (rA j)
def rfP (t j : Nat) : Int := (lkN (rK t j) (rA j) t).sqP
def rfQ (t j : Nat) : Int := (lkN (rK t j) (rA j) t).sqQ
theorem rfK_is {t : Nat} (h : t ≤ 7) : rfK t 3 = t := by
  have h1 : (List.range 8).all (fun t => rfK t 3 == t) = true := by kernel_rfl
  have := List.all_eq_true.1 h1 t (List.mem_range.2 (by omega))
  simpa using this
/-- How a held value reads. -/
def heldR (v : Value) : Option (DataW Value × List MemPlace) := some (.held v, [])
def mapD : List (Int × Value) → DataW Value
  | [] => .map []
  | (k, v) :: r => (mapD r).put (.int .i64 k) (.held v)
theorem mapD_map (us : List (Int × Value)) : Go.Maps.IsMap (mapD us) := by
  cases us with
  | nil => exact Go.Maps.isMap_empty
  | cons x r =>
    have h : ∀ us : List (Int × Value), Go.Maps.IsMap (mapD us) := fun us => by
      induction us with
      | nil => exact Go.Maps.isMap_empty
      | cons x r ih => exact ih.put _ _
    exact h _
theorem mapD_at {k : Int} {v : Value} {z : DataW Value} : ∀ {us : List (Int × Value)}, us.lookup k = some v → (mapD us).atKey (.int .i64 k) z = .held v
  | [], h => by simp at h
  | (k', v') :: r, h => by
    by_cases e : k = k'
    · subst e
      simp at h
      subst h
      exact Go.Maps.atKey_put_same (mapD_map r) (by simp [WideAt.IsKeyLit]) _ _
    · have h1 : r.lookup k = some v := by
        rw [List.lookup_cons] at h
        have : (k == k') = false := by simpa using e
        rw [this] at h
        exact h
      show ((mapD r).put (.int .i64 k') (.held v')).atKey (.int .i64 k) z = _
      rw [Go.Maps.atKey_put_other (by intro x; injection x with _ x; exact e x)]
      exact mapD_at h1
theorem intKeyed : Go.Maps.Keyed Try.prog 3 := Go.Maps.int_keyed Try.underlying3
theorem zeroLook (w : World) : (zeroValue 141).run Try.prog w = .ok (.agg #[.slice none 0 0, .int .i64 0, .int .i64 0]) w := by kernel_rfl
theorem keyInt {k : Int} (h : -1000 ≤ k ∧ k ≤ 1000) : keyOf Try.prog 3 (.int .i64 k) = some (.int .i64 k) := by
  refine Go.Maps.keyOf_int_mk Try.underlying3 ?_
  have h1 : IntKind.i64.min = -9223372036854775808 := by decide
  have h2 : IntKind.i64.max = 9223372036854775807 := by decide
  simp only [Lit.wf, h1, h2, decide_eq_true_eq, Bool.and_eq_true]
  omega
set_option maxRecDepth 100000 in
theorem look_run {w : World} {b n : Nat} {us : List (Int × Value)} (h : w.ownsMap Try.prog 3 heldR b n (mapD us)) {k : Int} (hk : -1000 ≤ k ∧ k ≤ 1000) {v : Value} (hv : us.lookup k = some v) :
    (Instr.lookup 139 (.map (some b)) (.int .i64 k) false).run Try.prog w = .ok v w := by
  obtain ⟨v', ps, hrun, hR⟩ := h.lookup intKeyed Try.underlying139 (zeroLook w) (zd := .held (.agg #[.slice none 0 0, .int .i64 0, .int .i64 0])) (zp := []) rfl (keyInt hk)
  rw [mapD_at hv] at hR
  unfold heldR at hR
  injection hR with hR
  injection hR with hR _
  injection hR with hR
  rw [hrun, hR]
set_option maxRecDepth 100000 in
theorem run_index_two (cs : Array Value) (k : Nat) (v : Value) (w : World) (hk : k < 2) (hn : cs.size = 2) (hv : cs[k]? = some v) (hv1 : v.cells.size = 1) : (Instr.index 129 (.agg cs) (.int .i64 (k : Int))).run Try.prog w = .ok v w := by
  have h1 : (k : Int) < 2 := by omega
  have h2 : (0 : Int) ≤ (k : Int) := by omega
  simp [Instr.index, run_underlying Try.underlying129, asIntOf, go_sem, h1, h2, hv]
  intro h; omega
end Go.Proofs.Ytdkbjgnkehoplaa
/- Refined of the code. -/
namespace Go.Proofs.Ytdkbjgnkehoplaa
open Go.RowKit Go.Shelf Go.Great
section
variable {w w' : World} {base n : Nat} {v : Value} {F : Nat → Nat → Int} {P Q : Nat → Int} {b m : Nat} {D : DataW Value}
theorem OwnLooks.apart (h : OwnLooks w base v n F P Q) (hm : w.ownsMap Try.prog 3 heldR b m D) : some b ≠ v.ownBlock := by
  obtain ⟨xs, h1, -⟩ := h
  obtain ⟨es, clock, hb, -⟩ := hm
  rcases h1.2 with ⟨rfl, -⟩ | ⟨g, cap, cur, rfl, -, hg, -⟩
  · simp [Value.ownBlock]
  · intro e
    simp only [Value.ownBlock] at e
    injection e with e
    subst e
    rw [hb] at hg
    injection hg with hg
    exact absurd hg (by simp)
theorem IntsAt.apart {lo k : Nat} {A : Option Addr} {G : Nat → Int} (h : IntsAt w lo A (k + 1) G) (hm : w.ownsMap Try.prog 3 heldR b m D) (q o : Nat) (e : A = some ⟨q, o, none⟩) : some b ≠ some q := by
  obtain ⟨q', o', e', -, -, h3⟩ := h 0 (Nat.succ_pos k)
  obtain ⟨es, clock, hb, -⟩ := hm
  rw [e] at e'
  injection e' with e'
  injection e' with e1 e2
  subst e1
  intro x
  injection x with x
  subst x
  simp [World.cell?, hb] at h3
theorem OwnLooks.store (h : OwnLooks w base v n F P Q) (hm : w.ownsMap Try.prog 3 heldR b m D) (hg : w.grownBy w' (some b)) : OwnLooks w' base v n F P Q := by
  have ha := h.apart hm
  obtain ⟨xs, h1, h2⟩ := h
  refine ⟨xs, World.ownsRow.kept h1 hg (.inr (fun x => ha x.symm)), fun i hi => ?_⟩
  obtain ⟨Ai, ci, e0, e1, e2, h5, h6⟩ := h2 i hi
  exact ⟨Ai, ci, e0, e1, e2, h5.grown hg (fun q o e => h5.apart hm q o e), fun q o e => ⟨(h6 q o e).1, Nat.lt_of_lt_of_le (h6 q o e).2 hg.size⟩⟩
theorem mapBelow (hm : w.ownsMap Try.prog 3 heldR b m D) (hb : Below w.heap.size w w') : w'.ownsMap Try.prog 3 heldR b m D := hm.kept (row := none) ⟨hb.os, hb.tape, hb.output, hb.size, fun k hk _ => hb.block k hk⟩ (by simp)
end
theorem run_gain (A : Option Addr) (p q : Int) (w : World) : (Instr.field 141 (.agg #[.slice A 8 8, .int .i64 p, .int .i64 q]) 1).run Try.prog w = .ok (.agg #[.int .i64 p, .int .i64 q]) w := by kernel_rfl
def rfN (t : Int) : Nat := if stepE t = 0 then 6 else 0
def rfR (t : Int) : Int := if stepE t = 0 then (rfK t.toNat 3 : Int) else 0
theorem stepE_zero {s : Int} (h : stepE s = 0) : 0 ≤ s ∧ s ≤ 7 := withinB_iff.1 (unI_none (by decide) h)
set_option maxHeartbeats 8000000 in
set_option maxRecDepth 100000 in
theorem Refined_any (t : Int) (w : World) :
    Calls Try.prog 60 #[.int .i64 t] w fun e w' => ∃ v, e = .returned (.tuple #[v, .int .i64 (rfR t), .int .i64 (stepE t)]) ∧ OwnLooks w' w.heap.size v (rfN t) (rfF t.toNat) (rfP t.toNat) (rfQ t.toNat) ∧ Below w.heap.size w w' := by
  have HSE := hide (fun W => stepError_any t W)
  by_cases ht : stepE t = 0
  case neg =>
    have HE := hide (show rfR t = 0 from if_neg ht)
    have HN := hide (show rfN t = 0 from if_neg ht)
    obtain ⟨V, hV⟩ : ∃ z, stepE t = z := ⟨_, rfl⟩
    rw [hV] at ht ⊢
    simp only [hV] at HSE
    have tv : (V != 0) = true := by simpa using ht
    rw [HE.out, HN.out]
    clear HE HN hV ht
    go_enter Try.func60, Try.ntmps60
    go_wp2_with fail
    refine (HSE.out _).mono ?_
    rintro e_ w_1 ⟨rfl, rfl⟩
    go_wp2_with fail
    go_ret3
    exact ⟨_, rfl, OwnLooks.nil_ _ _ _ _ _, Below.refl _ _⟩
  obtain ⟨ht0, ht7⟩ := stepE_zero ht
  obtain ⟨s, rfl⟩ : ∃ s : Nat, t = (s : Int) := ⟨t.toNat, by omega⟩
  have hs7 : s ≤ 7 := by omega
  have HE := hide (show rfR (s : Int) = (rfK s 3 : Nat) from if_pos ht)
  have HN := hide (show rfN (s : Int) = 6 from if_pos ht)
  have HT := hide (show ((s : Int)).toNat = s from rfl)
  simp only [ht] at HSE
  rw [ht, HE.out, HN.out, HT.out]
  clear HE HN HT ht ht0 ht7
  have HLK := hide (fun (k a : Nat) W h1 h2 h3 => lookAlong_any k a s W h1 h2 h3 hs7)
  have HST := hide (fun r => (show rfK s (r + 1) = if 0 < compI ((lkN (rfK s r + 2 ^ r) (4 / 2 ^ r) s).sqP - (lkN (rfK s r) (4 / 2 ^ r) s).sqP) ((lkN (rfK s r) (4 / 2 ^ r) s).sqQ - (lkN (rfK s r + 2 ^ r) (4 / 2 ^ r) s).sqQ) then rfK s r + 2 ^ r else rfK s r from rfl))
  have HLT := hide (fun r => rfK_lt s r)
  have HFF := hide (fun r j (hj : j < 2) => (show rfF s (2 * r + j) = stF (rfK s r + j * 2 ^ r) (4 / 2 ^ r) ∧ rfP s (2 * r + j) = (lkN (rfK s r + j * 2 ^ r) (4 / 2 ^ r) s).sqP ∧ rfQ s (2 * r + j) = (lkN (rfK s r + j * 2 ^ r) (4 / 2 ^ r) s).sqQ by
    unfold rfF rfP rfQ rK rA
    rw [show (2 * r + j) / 2 = r by omega, show (2 * r + j) % 2 = j by omega]
    exact ⟨rfl, rfl, rfl⟩))
  have hmm := @run_makeMap Try.prog
  go_enter Try.func60, Try.ntmps60
  go_wp2_with fail
  refine (HSE.out _).mono ?_
  rintro e_ w_1 ⟨rfl, rfl⟩
  clear HSE
  go_wp2_with fail
  go_loopw [6, 7, 8] (fun v k f wr => ∃ r : Nat, r ≤ 3 ∧ k = .int .i64 ((rfK s r : Nat) : Int) ∧ f = .int .i64 ((2 ^ r : Nat) : Int) ∧ OwnLooks wr w.heap.size v (2 * r) (rfF s) (rfP s) (rfQ s) ∧ Below w.heap.size w wr) (fun _ _ f _ => 8 - (Go.RowKit.intOf f).toNat)
  case atStart => exact ⟨0, Nat.zero_le _, rfl, rfl, OwnLooks.nil_ _ _ _ _ _, Below.refl _ _⟩
  case round =>
    obtain ⟨r, hr, rfl, rfl, hown, hB⟩ := hrel
    obtain ⟨wA, rfl⟩ : ∃ x : World, x = wr := ⟨_, rfl⟩
    have hBs := hB.size
    have hST := HST.out r
    have hkf := HLT.out r
    have hFF := HFF.out r
    have hf2 : 2 ^ (r + 1) = 2 ^ r * 2 := Nat.pow_succ 2 r
    have hcase : r = 0 ∨ r = 1 ∨ r = 2 ∨ r = 3 := by omega
    by_cases hlt : r < 3
    · have hf : 1 ≤ 2 ^ r ∧ 2 ^ r ≤ 4 ∧ 1 ≤ 4 / 2 ^ r ∧ 4 / 2 ^ r ≤ 4 ∧ (4 : Int).tdiv ((2 ^ r : Nat) : Int) = ((4 / 2 ^ r : Nat) : Int) := by
        rcases hcase with rfl | rfl | rfl | rfl
        · decide
        · decide
        · decide
        · omega
      obtain ⟨f, hfe⟩ : ∃ z, 2 ^ r = z := ⟨_, rfl⟩
      rw [hfe] at hf hST hkf hFF hf2 ⊢
      obtain ⟨a, hae⟩ : ∃ z, 4 / f = z := ⟨_, rfl⟩
      rw [hae] at hf hST hFF
      obtain ⟨k, hke⟩ : ∃ z, rfK s r = z := ⟨_, rfl⟩
      rw [hke] at hST hkf hFF ⊢
      obtain ⟨hf1, hf4, ha1, ha4, hq⟩ := hf
      have hltz : (f : Int) < 8 := by omega
      have q0 : ¬ (f : Int) = 0 := by omega
      have q1 : IntKind.i64.wrap ((k : Int) + (f : Int)) = ((k + f : Nat) : Int) := by rw [← Int.natCast_add]; exact IntWalk.i64_in _ (by omega)
      have q3 : IntKind.i64.wrap (a : Int) = (a : Int) := IntWalk.i64_in _ (by omega)
      have q4 : IntKind.i64.wrap ((f : Int) * 2) = ((f * 2 : Nat) : Int) := by rw [show (f : Int) * 2 = ((f * 2 : Nat) : Int) by omega]; exact IntWalk.i64_in _ (by omega)
      have HST1 := hide hST
      have HFF1 := hide hFF
      have HREL := hide (show 2 ^ (r + 1) = f * 2 by rw [hf2])
      clear hST hFF hf2 hfe hae hke hcase HST HFF HLT
      have HBA := hide hB
      have HOA := hide hown
      clear hown hB
      go_wp2_with fail
      obtain ⟨gm, hgm⟩ : ∃ z, wA.heap.size = z := ⟨_, rfl⟩
      have hgl : w.heap.size ≤ gm := by rw [← hgm]; exact HBA.out.size
      have HM0 := hide (World.ownsMap_made wA Try.prog 3 heldR)
      have HO0 := hide (HOA.out.alloc (.map #[] 0))
      have HB0 := hide (HBA.out.alloc HBA.out.size (.map #[] 0))
      clear HBA HOA
      rw [hgm] at HM0
      try simp only [hgm]
      clear hgm hBs
      go_loopw [6, 27] (fun v i wr => ∃ (j : Nat) (us : List (Int × Value)), j ≤ 2 ∧ i = .int .i64 (j : Int) ∧ OwnLooks wr w.heap.size v (2 * r + j) (rfF s) (rfP s) (rfQ s) ∧ wr.ownsMap Try.prog 3 heldR gm j (mapD us) ∧ Below w.heap.size w wr ∧ (∀ i, i < j → ∃ A, us.lookup ((k + i * f : Nat) : Int) = some (.agg #[.slice A 8 8, .int .i64 (lkN (k + i * f) a s).sqP, .int .i64 (lkN (k + i * f) a s).sqQ]))) (fun _ i _ => 2 - (Go.RowKit.intOf i).toNat)
      case atStart => exact ⟨0, [], Nat.zero_le _, rfl, HO0.out, HM0.out, HB0.out, fun i h => absurd h (Nat.not_lt_zero i)⟩
      case round =>
        obtain ⟨j, us, hj, rfl, hown, hmap, hB, hus⟩ := hrel
        obtain ⟨wB, rfl⟩ : ∃ x : World, x = wr := ⟨_, rfl⟩
        clear HM0 HO0 HB0
        have hBs := hB.size
        have HUS := hide hus
        clear hus
        by_cases hjl : j < 2
        · have hjz : (j : Int) < 2 := by omega
          have hj01 : j = 0 ∨ j = 1 := by omega
          obtain ⟨x, hx⟩ : ∃ z, k + j * f = z := ⟨_, rfl⟩
          have hx7 : x ≤ 7 := by rcases hj01 with rfl | rfl <;> omega
          have hix := fun W => run_index_two #[.int .i64 (k : Int), .int .i64 ((k : Int) + (f : Int))] j (.int .i64 (x : Int)) W hjl rfl (by
            rcases hj01 with rfl | rfl
            · rw [← hx]; simp
            · rw [← hx]; simp) rfl
          have HF1 := hide (HFF1.out j hjl)
          simp only [hx] at HF1
          have hxn : ∀ i, i < j → ((k + i * f : Nat) : Int) ≠ (x : Int) := fun i hi => by
            rcases hj01 with rfl | rfl
            · omega
            · obtain rfl : i = 0 := by omega
              omega
          have HXN := hide hxn
          have HXE := hide hx
          clear hx hxn hj01
          go_wp2_with fail
          refine (HLK.out x a wB hx7 ha1 (by omega)).mono ?_
          rintro e_ wC ⟨A, rfl, hI, hb⟩
          have hown1 := hown.below hb
          have hmap1 := mapBelow hmap hb
          have hB1 := hB.trans (hb.mono hBs)
          have hbs := hb.size
          have hapart : ∀ b o, A = some ⟨b, o, none⟩ → wB.heap.size ≤ b ∧ b < wC.heap.size := fun b o e => by
            subst e
            exact hI.block (by decide : 0 < 8)
          have hvlt := fun b => (hown.lt (k := b))
          clear hown hmap hB hb
          go_wp2_with (at_mapUpdate; refine wpList_mapUpdate_own _ rfl _ _ _ 139 rfl 3 141 intKeyed Try.underlying139 heldR gm j _ rfl hmap1 (by unfold maxLen; omega) _ _ _ rfl rfl (keyInt (by omega)) _ [] rfl ?_; intro wD hmap2 hgrow)
          have hown2 := hown1.store hmap1 hgrow
          have hI2 := IntsAt.grown (hI.weak (show w.heap.size ≤ wB.heap.size from hBs)) hgrow (fun q o e => hI.apart hmap1 q o e)
          have hB2 := hB1.grown hgrow hB1.size (fun q hq => by cases hq; exact hgl)
          have hgs := hgrow.size
          have hus2 : ((((x : Int), Value.agg #[.slice A 8 8, .int .i64 (lkN x a s).sqP, .int .i64 (lkN x a s).sqQ]) :: us) : List (Int × Value)).lookup (x : Int) = some (.agg #[.slice A 8 8, .int .i64 (lkN x a s).sqP, .int .i64 (lkN x a s).sqQ]) := by simp
          have hlk := look_run (us := ((x : Int), Value.agg #[.slice A 8 8, .int .i64 (lkN x a s).sqP, .int .i64 (lkN x a s).sqQ]) :: us) hmap2 (k := (x : Int)) (by omega) hus2
          have HM2 := hide (show wD.ownsMap Try.prog 3 heldR gm (j + 1) (mapD (((x : Int), Value.agg #[.slice A 8 8, .int .i64 (lkN x a s).sqP, .int .i64 (lkN x a s).sqQ]) :: us)) from hmap2)
          have HO2 := hide hown2
          have HI2 := hide hI2
          have HB2 := hide hB2
          clear hown1 hmap1 hB1 hI hgrow hown2 hI2 hB2 hmap2 hus2
          obtain ⟨p, hp⟩ : ∃ z, (lkN x a s).sqP = z := ⟨_, rfl⟩
          obtain ⟨q, hq⟩ : ∃ z, (lkN x a s).sqQ = z := ⟨_, rfl⟩
          simp only [hp, hq] at hlk HM2 HF1
          try simp only [hp, hq]
          obtain ⟨w3, hw3⟩ : ∃ z : World, z = wD.alloc (.cells #[.slice A 8 8, .int .i64 p, .int .i64 q] 141) := ⟨_, rfl⟩
          have hw3s : w3.heap.size = wD.heap.size + 1 := by rw [hw3]; simp
          have HBX := hide (show Box w3 wD.heap.size 141 #[.slice A 8 8, .int .i64 p, .int .i64 q] by rw [hw3]; exact Box.made rfl)
          have HO3 := hide (show OwnLooks w3 w.heap.size _ (2 * r + j) (rfF s) (rfP s) (rfQ s) by rw [hw3]; exact HO2.out.alloc _)
          have HI3 := hide (show IntsAt w3 w.heap.size A 8 (stF x a) by rw [hw3]; exact HI2.out.alloc _)
          have HM3 := hide (show w3.ownsMap Try.prog 3 heldR gm (j + 1) (mapD (((x : Int), Value.agg #[.slice A 8 8, .int .i64 p, .int .i64 q]) :: us)) by rw [hw3]; exact HM2.out.alloc _)
          have HB3 := hide (show Below w.heap.size w w3 by rw [hw3]; exact HB2.out.alloc HB2.out.size _)
          clear HO2 HI2 HM2 HB2
          have HPP := hide hp
          have HQQ := hide hq
          have HW3 := hide hw3
          have HWS := hide hw3s
          clear hp hq hw3 hw3s
          rw [hlk]
          clear hlk
          go_wp2_with (at_builtin; (try rw [← HW3.out]); have hw3s := HWS.out; refine wpList_append_looks _ rfl (.tmp 37) (.tmp 41) rfl w.heap.size _ (2 * r + j) (rfF s) (rfP s) (rfQ s) rfl HO3.out ⟨wD.heap.size, 0, none⟩ 1 1 (fun _ => stF x a) (fun _ => p) (fun _ => q) [.slice A 8 8, .int .i64 p, .int .i64 q] rfl rfl (looks_one (v := .slice none 0 0) HBX.out HI3.out (fun b o e => ⟨by simp [Value.ownBlock], by have := hapart b o e; omega⟩)).1 (by intro u hu; simp at hu; rcases hu with rfl | rfl | rfl <;> rfl) (looks_one HBX.out HI3.out (fun b o e => ⟨fun y => (by have h1 := hapart b o e; have h2 := hvlt _ y; omega), by have := hapart b o e; omega⟩)).2 (by omega) HB3.out.size ?_; intro v' w4 h1 h2 h3)
          have hmap4 := HM3.out.kept h3 (HO3.out.apart HM3.out)
          go_roundw
          case rel =>
            refine ⟨j + 1, ((x : Int), Value.agg #[.slice A 8 8, .int .i64 p, .int .i64 q]) :: us, by omega, by go_num, ?_, hmap4, HB3.out.trans h2, ?_⟩
            · rw [← Nat.add_assoc]
              refine h1.congr fun i hi => ?_
              unfold catA
              by_cases e : i < 2 * r + j
              · rw [if_pos e, if_pos e, if_pos e]; exact ⟨rfl, rfl, rfl⟩
              · obtain rfl : i = 2 * r + j := by omega
                rw [if_neg e, if_neg e, if_neg e]
                exact ⟨HF1.out.1.symm, HF1.out.2.1.symm, HF1.out.2.2.symm⟩
            · intro i hi
              by_cases e : i = j
              · subst e
                refine ⟨A, ?_⟩
                rw [HXE.out, HPP.out, HQQ.out]
                simp
              · obtain ⟨B, hBq⟩ := HUS.out i (by omega)
                refine ⟨B, ?_⟩
                have hne := HXN.out i (by omega)
                rw [List.lookup_cons]
                have : (((k + i * f : Nat) : Int) == (x : Int)) = false := by simpa using hne
                rw [this]
                exact hBq
          case measure => simp [Go.RowKit.intOf]; omega
        · obtain rfl : j = 2 := by omega
          obtain ⟨A0, hl0⟩ := HUS.out 0 (by decide)
          obtain ⟨A1, hl1⟩ := HUS.out 1 (by decide)
          rw [Nat.zero_mul, Nat.add_zero] at hl0
          rw [Nat.one_mul] at hl1
          have hr0 := look_run hmap (k := (k : Int)) (by omega) hl0
          have hgn := fun A p q W => run_gain A p q W
          have hr1 := look_run hmap (k := ((k + f : Nat) : Int)) (by omega) hl1
          rw [Int.natCast_add] at hr1
          have HO := hide hown
          have HB := hide hB
          clear hmap hown hB hl0 hl1 HUS HFF1 HLK hmm
          have HN0 := lkN_bounds k a s
          have HN1 := lkN_bounds (k + f) a s
          obtain ⟨p0, hp0⟩ : ∃ z, (lkN k a s).sqP = z := ⟨_, rfl⟩
          obtain ⟨q0', hq0⟩ : ∃ z, (lkN k a s).sqQ = z := ⟨_, rfl⟩
          obtain ⟨p1, hp1⟩ : ∃ z, (lkN (k + f) a s).sqP = z := ⟨_, rfl⟩
          obtain ⟨q1', hq1⟩ : ∃ z, (lkN (k + f) a s).sqQ = z := ⟨_, rfl⟩
          rw [hp0, hq0] at hr0 HN0
          rw [hp1, hq1] at hr1 HN1
          rw [hp0, hq0, hp1, hq1] at HST1
          clear hp0 hq0 hp1 hq1
          have HCM := hide (fun W => compared_any p1 q1' p0 q0' W (by omega) (by omega) (by omega) (by omega))
          clear HN0 HN1
          go_wp2_with fail
          refine (HCM.out _).mono ?_
          rintro e_ w5 ⟨rfl, hb5⟩
          have hO5 := HO.out.below hb5
          have hB5 := HB.out.trans (hb5.mono hBs)
          clear hb5 HO HB HCM
          by_cases hc : 0 < compI (p1 - p0) (q0' - q1')
          · have hst := hide (HST1.out.trans (if_pos hc))
            clear HST1
            go_wp2_with fail
            go_roundw
            case rel => exact ⟨r + 1, by omega, by rw [hst.out]; try go_num, by rw [HREL.out]; try go_num, hO5, hB5⟩
            case measure => simp [Go.RowKit.intOf]; omega
          · have hst := hide (HST1.out.trans (if_neg hc))
            have hc' : ¬ 0 < compI (p1 - p0) (q0' - q1') := hc
            clear HST1
            go_wp2_with fail
            go_roundw
            case rel => exact ⟨r + 1, by omega, by rw [hst.out]; try go_num, by rw [HREL.out]; try go_num, hO5, hB5⟩
            case measure => simp [Go.RowKit.intOf]; omega
    · obtain rfl : r = 3 := by omega
      have q9 : ((2 ^ 3 : Nat) : Int) = 8 := rfl
      rw [q9]
      go_wp2_with fail
      go_ret3
      exact ⟨_, rfl, hown, hB⟩
end Go.Proofs.Ytdkbjgnkehoplaa
/- A fair split (without a walk): what is used at a level, the greatest level for which the power does, what each beam gets. -/
namespace Go.Proofs.Ytdkbjgnkehoplaa
open Go.RowKit
/-- What the first k beams use at a level. -/
def usN (L : Int) (X : Nat → Int) : Nat → Int
  | 0 => 0
  | k + 1 => usN L X k + min (X k) L
theorem usN_bounds {L M : Int} {X : Nat → Int} (hL : 0 ≤ L) : ∀ k, (∀ j, j < k → 0 ≤ X j ∧ X j ≤ M) → 0 ≤ usN L X k ∧ usN L X k ≤ k * M
  | 0, _ => by show (0 : Int) ≤ 0 ∧ (0 : Int) ≤ ((0 : Nat) : Int) * M; simp
  | k + 1, h => by
    have h1 := usN_bounds hL k fun j hj => h j (by omega)
    have h2 := h k (Nat.lt_succ_self k)
    have e : ((k + 1 : Nat) : Int) * M = k * M + M := by rw [Int.natCast_succ, Int.add_mul, Int.one_mul]
    rw [e]
    show 0 ≤ usN L X k + min (X k) L ∧ usN L X k + min (X k) L ≤ k * M + M
    omega
theorem usN_mono {L M : Int} {X : Nat → Int} (h : L ≤ M) : ∀ k, usN L X k ≤ usN M X k
  | 0 => Int.le_refl _
  | k + 1 => by
    have := usN_mono (X := X) h k
    show usN L X k + min (X k) L ≤ usN M X k + min (X k) M
    omega
theorem usN_congr {L : Int} {X Y : Nat → Int} : ∀ k, (∀ j, j < k → X j = Y j) → usN L X k = usN L Y k
  | 0, _ => rfl
  | k + 1, h => by
    show usN L X k + min (X k) L = usN L Y k + min (Y k) L
    rw [usN_congr k fun j hj => h j (by omega), h k (Nat.lt_succ_self k)]
/-- A number at most N behind which (or at N) a predicate is so, and not ahead of it. -/
def IsLevel (p : Nat → Bool) (N r : Nat) : Prop := r ≤ N ∧ (r = N ∨ p r = true) ∧ (r = 0 ∨ p (r - 1) = false)
theorem IsLevel.only {p : Nat → Bool} {N r s : Nat} (hm : ∀ i j, i ≤ j → p i = true → p j = true) (h : IsLevel p N r) (k : IsLevel p N s) : r = s := by
  obtain ⟨h1, h2, h3⟩ := h
  obtain ⟨k1, k2, k3⟩ := k
  rcases Nat.lt_trichotomy r s with e | e | e
  · exfalso
    rcases k3 with k3 | k3
    · omega
    · rcases h2 with h2 | h2
      · omega
      · rw [hm r (s - 1) (by omega) h2] at k3; cases k3
  · exact e
  · exfalso
    rcases h3 with h3 | h3
    · omega
    · rcases k2 with k2 | k2
      · omega
      · rw [hm s (r - 1) (by omega) k2] at h3; cases h3
/-- Is the power not enough for one level more? -/
def ovB (P : Int) (X : Nat → Int) (n : Nat) (r : Nat) : Bool := decide (P < usN ((r : Int) + 1) X n)
theorem ovB_mono {P : Int} {X : Nat → Int} {n : Nat} : ∀ i j, i ≤ j → ovB P X n i = true → ovB P X n j = true := fun i j hij h => by
  have h1 : P < usN ((i : Int) + 1) X n := of_decide_eq_true h
  have h2 := usN_mono (X := X) (L := (i : Int) + 1) (M := (j : Int) + 1) (by omega) n
  exact decide_eq_true (by omega)
/-- What is left to be given out one by one, behind the first k beams; what the beam k gets. -/
def lfN (r : Int) (X : Nat → Int) (l0 : Int) : Nat → Int
  | 0 => l0
  | k + 1 => if r < X k ∧ 0 < lfN r X l0 k then lfN r X l0 k - 1 else lfN r X l0 k
def spF (r : Int) (X : Nat → Int) (l0 : Int) (k : Nat) : Int := if r < X k ∧ 0 < lfN r X l0 k then min (X k) r + 1 else min (X k) r
/-- What is left at first. -/
def lf0 (P M : Int) (X : Nat → Int) (n : Nat) (r : Int) : Int := if r < M then P - usN r X n else 0
theorem lfN_bounds {r l0 : Int} {X : Nat → Int} (h : 0 ≤ l0) : ∀ k, 0 ≤ lfN r X l0 k ∧ lfN r X l0 k ≤ l0
  | 0 => ⟨h, Int.le_refl _⟩
  | k + 1 => by
    have := lfN_bounds (r := r) (X := X) h k
    rw [show lfN r X l0 (k + 1) = if r < X k ∧ 0 < lfN r X l0 k then lfN r X l0 k - 1 else lfN r X l0 k from rfl]
    split <;> omega
/-- The errors of a panel and of wants. -/
def paE (P M : Int) : Int := firstE [inE 0 1000000 P, inE 0 1000000 M]
def waE (P M : Int) (n : Nat) (X : Nat → Int) : Int := firstE [paE P M, unI (decide ((n : Int) ≤ 12)) 8, badE (fun j => inE 0 1000000 (X j)) n]
theorem paE_zero {P M : Int} (h : paE P M = 0) : (0 ≤ P ∧ P ≤ 1000000) ∧ 0 ≤ M ∧ M ≤ 1000000 := by
  obtain ⟨h1, h2⟩ := firstE_none2 h
  obtain ⟨h3, -⟩ := firstE_none2 h2
  exact ⟨withinB_iff.1 (unI_none (by decide) h1), withinB_iff.1 (unI_none (by decide) h3)⟩
theorem waE_zero {P M : Int} {n : Nat} {X : Nat → Int} (h : waE P M n X = 0) : ((0 ≤ P ∧ P ≤ 1000000) ∧ 0 ≤ M ∧ M ≤ 1000000) ∧ n ≤ 12 ∧ ∀ j, j < n → 0 ≤ X j ∧ X j ≤ 1000000 := by
  obtain ⟨h1, h2⟩ := firstE_none2 h
  obtain ⟨h3, h4⟩ := firstE_none2 h2
  obtain ⟨h5, -⟩ := firstE_none2 h4
  have h3 := unI_none (by decide) h3
  simp at h3
  exact ⟨paE_zero h1, by omega, fun j hj => withinB_iff.1 (unI_none (by decide) (badE_none h5 j hj))⟩
/-- The level is unique, and there is one. -/
def lvN (P : Int) (X : Nat → Int) (n : Nat) : Nat → Nat
  | 0 => 0
  | m + 1 => if lvN P X n m < m then lvN P X n m else if ovB P X n m = true then m else m + 1
theorem lvN_le {P : Int} {X : Nat → Int} {n : Nat} : ∀ m, lvN P X n m ≤ m
  | 0 => Nat.le_refl _
  | m + 1 => by
    have := lvN_le (P := P) (X := X) (n := n) m
    unfold lvN
    split
    · omega
    · split <;> omega
theorem lvN_is {P : Int} {X : Nat → Int} {n : Nat} : ∀ m, IsLevel (ovB P X n) m (lvN P X n m)
  | 0 => ⟨Nat.le_refl _, .inl rfl, .inl rfl⟩
  | m + 1 => by
    obtain ⟨h1, h2, h3⟩ := lvN_is (P := P) (X := X) (n := n) m
    unfold lvN
    split
    · rename_i hlt
      exact ⟨by omega, .inr (h2.resolve_left (by omega)), h3⟩
    · split
      · rename_i h4 h5
        have e : lvN P X n m = m := by omega
        rw [e] at h3
        exact ⟨by omega, .inr h5, h3⟩
      · rename_i h4 h5
        exact ⟨Nat.le_refl _, .inl rfl, .inr (by rw [Nat.add_sub_cancel]; simpa using h5)⟩
theorem level_is {P : Int} {X : Nat → Int} {n N r : Nat} (h : IsLevel (ovB P X n) N r) : r = lvN P X n N := h.only ovB_mono (lvN_is N)
/-- At the level the power does. -/
theorem level_does {P : Int} {X : Nat → Int} {n N : Nat} (hP : 0 ≤ P) (hX : ∀ j, j < n → 0 ≤ X j) : usN (lvN P X n N : Int) X n ≤ P := by
  obtain ⟨-, -, h⟩ := lvN_is (P := P) (X := X) (n := n) N
  generalize lvN P X n N = r at *
  rcases h with h | h
  · subst h
    have : ∀ k, k ≤ n → usN ((0 : Nat) : Int) X k ≤ 0 := fun k => by
      induction k with
      | zero => intro _; exact Int.le_refl _
      | succ k ih =>
        intro hk
        have h1 := ih (by omega)
        have h2 := hX k (by omega)
        show usN ((0 : Nat) : Int) X k + min (X k) ((0 : Nat) : Int) ≤ 0
        omega
    have := this n (Nat.le_refl n)
    omega
  · by_cases h0 : r = 0
    · subst h0
      have h1 : ¬ P < usN (((0 - 1 : Nat) : Int) + 1) X n := of_decide_eq_false h
      have h2 := usN_mono (X := X) (L := ((0 : Nat) : Int)) (M := ((0 - 1 : Nat) : Int) + 1) (by omega) n
      omega
    · have h1 : ¬ P < usN (((r - 1 : Nat) : Int) + 1) X n := of_decide_eq_false h
      rw [show ((r - 1 : Nat) : Int) + 1 = (r : Int) from by omega] at h1
      omega
end Go.Proofs.Ytdkbjgnkehoplaa
