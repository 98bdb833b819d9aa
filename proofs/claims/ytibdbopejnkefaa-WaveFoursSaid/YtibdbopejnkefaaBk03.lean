/- Lemmas: Wo, Oa, Wd, Wh, Wj, Wl, Ua, Ob, Oc, Wp. -/
import Derived.Laws.MakeOwn
import Derived.Laws.OwnMore
import Derived.OwnWalk
import Derived.Shelf.Abstract
import Derived.Deep.QuietTactic
import Derived.BigQuiet
import Derived.Test.YtibdbopejnkefaaBk02
set_option linter.unusedVariables false
set_option linter.unusedSimpArgs false
/- Numbers of the call's own: a slice of structs of four cells in a new block. -/
namespace Go.Proofs.Ytibdbopejnkefaa
open Go.RowKit
def numVals (n : Nat) (F : Nat → Num) : List Value := (List.range (n * 4)).map fun j => Value.int .i64 ((F (j / 4)).part (j % 4))
theorem numVals_len (n : Nat) (F : Nat → Num) : (numVals n F).length = n * 4 := by simp [numVals]
theorem numVals_get (n : Nat) (F : Nat → Num) (j : Nat) : (numVals n F)[j]? = if j < n * 4 then some (.int .i64 ((F (j / 4)).part (j % 4))) else none := by
  unfold numVals
  by_cases h : j < n * 4
  · rw [if_pos h]; simp [h]
  · rw [if_neg h, List.getElem?_eq_none (by simp; omega)]
theorem numVals_congr {n : Nat} {F G : Nat → Num} (h : ∀ j, j < n → F j = G j) : numVals n F = numVals n G := by
  unfold numVals
  exact List.map_congr_left fun j hj => by
    have := List.mem_range.1 hj
    rw [h (j / 4) (by omega)]
def setNum (F : Nat → Num) (k : Nat) (x : Num) (j : Nat) : Num := if j = k then x else F j
/-- A slice of the call's own, of n numbers F, in a block that is not ahead of base. -/
def OwnNums (w : World) (base : Nat) (v : Value) (n : Nat) (F : Nat → Num) : Prop := w.ownsRow base 35 4 v n (numVals n F)
theorem OwnNums.congr {w : World} {base n : Nat} {v : Value} {F G : Nat → Num} (h : OwnNums w base v n F) (e : ∀ j, j < n → F j = G j) : OwnNums w base v n G := by
  unfold OwnNums at h ⊢
  rwa [← numVals_congr e]
theorem OwnNums.drew {w : World} {base n : Nat} {v : Value} {F : Nat → Num} (h : OwnNums w base v n F) : OwnNums w.drew base v n F := h
theorem OwnNums.drewN {w : World} {base n : Nat} {v : Value} {F : Nat → Num} (h : OwnNums w base v n F) (q : Nat) : OwnNums (w.drewN q) base v n F := h
theorem OwnNums.alloc {w : World} {base n : Nat} {v : Value} {F : Nat → Num} (h : OwnNums w base v n F) (o : Obj) : OwnNums (w.alloc o) base v n F := World.ownsRow.alloc h o
theorem OwnNums.below {w w' : World} {base n : Nat} {v : Value} {F : Nat → Num} (h : OwnNums w base v n F) (hb : Below w.heap.size w w') : OwnNums w' base v n F :=
  World.ownsRow.kept h (row := none) ⟨hb.os, hb.tape, hb.output, hb.size, fun k hk _ => hb.block k hk⟩ (by cases v.ownBlock <;> simp)
theorem OwnNums.lt {w : World} {base n g c : Nat} {F : Nat → Num} (h : OwnNums w base (.slice (some ⟨g, 0, none⟩) n c) n F) : base ≤ g ∧ g < w.heap.size := World.ownsRow.lt h g rfl
theorem OwnNums.part {w : World} {base n g c : Nat} {F : Nat → Num} (h : OwnNums w base (.slice (some ⟨g, 0, none⟩) n c) n F) {k i : Nat} (hk : k < n) (hi : i < 4) : w.cell? ⟨g, k * 4 + i, none⟩ = some (.int .i64 ((F k).part i)) := by
  rw [World.ownsRow.cellAt h (k * 4 + i) (by omega), numVals_get, if_pos (by omega), show (k * 4 + i) / 4 = k by omega, show (k * 4 + i) % 4 = i by omega]
theorem OwnNums.cells {w : World} {base n g c : Nat} {F : Nat → Num} (h : OwnNums w base (.slice (some ⟨g, 0, none⟩) n c) n F) {k : Nat} (hk : k < n) :
    w.cell? ⟨g, k * 4, none⟩ = some (.int .i64 (F k).a) ∧ w.cell? ⟨g, k * 4 + 1, none⟩ = some (.int .i64 (F k).b) ∧ w.cell? ⟨g, k * 4 + 2, none⟩ = some (.int .i64 (F k).c) ∧ w.cell? ⟨g, k * 4 + 3, none⟩ = some (.int .i64 (F k).d) :=
  ⟨h.part hk (show 0 < 4 by decide), h.part hk (show 1 < 4 by decide), h.part hk (show 2 < 4 by decide), h.part hk (show 3 < 4 by decide)⟩
theorem OwnNums.frozen {w : World} {base n g c : Nat} {F : Nat → Num} (h : OwnNums w base (.slice (some ⟨g, 0, none⟩) n c) n F) (k : Nat) : w.frozen? ⟨g, k, none⟩ = false := World.ownsRow.frozenAt h k
theorem OwnNums.frozen4 {w : World} {base n g c : Nat} {F : Nat → Num} (h : OwnNums w base (.slice (some ⟨g, 0, none⟩) n c) n F) (k : Nat) : w.frozen? ⟨g, k * 4, none⟩ = false ∧ w.frozen? ⟨g, k * 4 + 1, none⟩ = false ∧ w.frozen? ⟨g, k * 4 + 2, none⟩ = false ∧ w.frozen? ⟨g, k * 4 + 3, none⟩ = false := ⟨h.frozen _, h.frozen _, h.frozen _, h.frozen _⟩
theorem OwnNums.nums {w : World} {base n c : Nat} {A : Option Addr} {F : Nat → Num} (h : OwnNums w base (.slice A n c) n F) : NumsAt w base A n F := fun i hi => by
  rcases h.2 with ⟨e, hx⟩ | ⟨g, cap, cur, e, hb, hg, hnc, hm, hsz, htake⟩
  · omega
  · injection e with e1 e2 e3
    subst e1
    have h' : OwnNums w base (.slice (some ⟨g, 0, none⟩) n c) n F := h
    obtain ⟨k0, k1, k2, k3⟩ := h'.cells hi
    exact ⟨g, 0, rfl, hb, (Array.getElem?_eq_some_iff.1 hg).1, by rwa [Nat.zero_add], by rwa [Nat.zero_add], by rwa [Nat.zero_add], by rwa [Nat.zero_add]⟩
theorem OwnNums.other {w : World} {base n : Nat} {v : Value} {F : Nat → Num} (h : OwnNums w base v n F) {k : Nat} (o : Nat) (u : Value) (hk : v.ownBlock ≠ some k) : OwnNums (w.setCell ⟨k, o, none⟩ u) base v n F := by
  refine World.ownsRow.kept h (row := some k) ⟨rfl, rfl, rfl, by simp, fun j _ hj => heap_setCell_other w ⟨k, o, none⟩ j u (fun e => hj (by simp [e]))⟩ (.inr hk)
theorem OwnNums.put {w : World} {base n g c : Nat} {F : Nat → Num} (h : OwnNums w base (.slice (some ⟨g, 0, none⟩) n c) n F) (k : Nat) (x : Num) :
    OwnNums ((((w.setCell ⟨g, k * 4, none⟩ (.int .i64 x.a)).setCell ⟨g, k * 4 + 1, none⟩ (.int .i64 x.b)).setCell ⟨g, k * 4 + 2, none⟩ (.int .i64 x.c)).setCell ⟨g, k * 4 + 3, none⟩ (.int .i64 x.d)) base (.slice (some ⟨g, 0, none⟩) n c) n (setNum F k x) := by
  have h1 := (World.ownsRow.stored (World.ownsRow.stored (World.ownsRow.stored (World.ownsRow.stored h (k * 4) (.int .i64 x.a)).1 (k * 4 + 1) (.int .i64 x.b)).1 (k * 4 + 2) (.int .i64 x.c)).1 (k * 4 + 3) (.int .i64 x.d)).1
  have e : ((((numVals n F).set (k * 4) (.int .i64 x.a)).set (k * 4 + 1) (.int .i64 x.b)).set (k * 4 + 2) (.int .i64 x.c)).set (k * 4 + 3) (.int .i64 x.d) = numVals n (setNum F k x) := by
    apply List.ext_getElem?
    intro j
    simp only [List.getElem?_set, List.length_set, numVals_len, numVals_get]
    by_cases hj : j < n * 4
    · have hd := Nat.div_add_mod j 4
      rw [if_pos hj]
      by_cases hk : j / 4 = k
      · have hs : setNum F k x (j / 4) = x := by unfold setNum; rw [if_pos hk]
        have hlt := Nat.mod_lt j (show 0 < 4 by decide)
        rw [hs, if_pos hj]
        obtain e | e | e | e : j % 4 = 0 ∨ j % 4 = 1 ∨ j % 4 = 2 ∨ j % 4 = 3 := by omega
        · rw [if_neg (by omega), if_neg (by omega), if_neg (by omega), if_pos (by omega), if_pos (by omega), e]; rfl
        · rw [if_neg (by omega), if_neg (by omega), if_pos (by omega), if_pos (by omega), e]; rfl
        · rw [if_neg (by omega), if_pos (by omega), if_pos (by omega), e]; rfl
        · rw [if_pos (by omega), if_pos (by omega), e]; rfl
      · have hs : setNum F k x (j / 4) = F (j / 4) := by unfold setNum; rw [if_neg hk]
        rw [hs, if_neg (by omega), if_neg (by omega), if_neg (by omega), if_neg (by omega), if_pos hj]
    · rw [if_neg hj]
      simp only [if_neg hj]
      repeat' split
      all_goals first | rfl | omega
  rw [e] at h1
  exact h1
theorem Below.put4at {B c o : Nat} {w W : World} (h : Below B w W) (hc : B ≤ c) (u0 u1 u2 u3 : Value) : Below B w ((((W.setCell ⟨c, o, none⟩ u0).setCell ⟨c, o + 1, none⟩ u1).setCell ⟨c, o + 2, none⟩ u2).setCell ⟨c, o + 3, none⟩ u3) :=
  (((h.setCell hc u0).setCell hc u1).setCell hc u2).setCell hc u3
theorem Box.other4at {w : World} {b c o : Nat} {t : TypeId} {cs : Array Value} (h : Box w b t cs) (hn : b ≠ c) (u0 u1 u2 u3 : Value) : Box ((((w.setCell ⟨c, o, none⟩ u0).setCell ⟨c, o + 1, none⟩ u1).setCell ⟨c, o + 2, none⟩ u2).setCell ⟨c, o + 3, none⟩ u3) b t cs :=
  (((h.other (p := ⟨c, o, none⟩) hn u0).other (p := ⟨c, o + 1, none⟩) hn u1).other (p := ⟨c, o + 2, none⟩) hn u2).other (p := ⟨c, o + 3, none⟩) hn u3
theorem OwnNums.made (w : World) (base g f : Nat) (hb : base ≤ w.heap.size) (hg : g = w.heap.size) (hf : f ≤ maxLen) : OwnNums (w.alloc (.cells (madeCells #[.int .i64 0, .int .i64 0, .int .i64 0, .int .i64 0] (f * 4)) 35)) base (.slice (some ⟨g, 0, none⟩) f f) f (fun _ => Num.zero) :=
  hg ▸ ⟨by rw [numVals_len], .inr ⟨w.heap.size, f, _, rfl, hb, heap_alloc_new w _, Nat.le_refl _, hf, by simp [madeCells], by
    apply List.ext_getElem?
    intro j
    rw [numVals_get]
    have hlt := Nat.mod_lt j (show 0 < 4 by decide)
    by_cases hj : j < f * 4
    · rw [if_pos hj]
      obtain e | e | e | e : j % 4 = 0 ∨ j % 4 = 1 ∨ j % 4 = 2 ∨ j % 4 = 3 := by omega
      all_goals (simp [madeCells, hj, e, Num.part, Num.zero])
    · rw [if_neg hj]; simp [madeCells]; omega⟩⟩
theorem numInfo : (Try.prog.info? 35).map (fun i => (i.zero, i.size, i.bytes)) = some (some (.agg #[.int .i64 0, .int .i64 0, .int .i64 0, .int .i64 0]), 4, 32) := by kernel_rfl
theorem make_nums (n : Nat) (hn : n ≤ 1000000000) (w : World) : (Instr.makeSlice 49 (.int .i64 (n : Int)) (.int .i64 (n : Int))).run Try.prog w = .ok (.slice (some ⟨w.heap.size, 0, none⟩) n n) (w.alloc (.cells (madeCells #[.int .i64 0, .int .i64 0, .int .i64 0, .int .i64 0] (n * 4)) 35)) := by
  obtain ⟨i0, hi, hz0, hz1, hz2⟩ := info_parts numInfo
  have hr := run_make (P := Try.prog) w 49 35 i0 _ Try.underlying49 hi hz0 .i64 .i64 n n (by omega) (Int.le_refl _) (by rw [hz2]; omega) (by omega)
  simp only [Int.toNat_natCast, hz1] at hr
  exact hr
end Go.Proofs.Ytibdbopejnkefaa
/- An append to a slice of numbers that the call made. -/
namespace Go.Proofs.Ytibdbopejnkefaa
open Go.RowKit
/-- F, and then G. -/
def catN (n : Nat) (F G : Nat → Num) : Nat → Num := fun j => if j < n then F j else G (j - n)
theorem numVals_cat (n m : Nat) (F G : Nat → Num) : numVals n F ++ numVals m G = numVals (n + m) (catN n F G) := by
  apply List.ext_getElem?
  intro j
  rw [List.getElem?_append, numVals_len, numVals_get, numVals_get, numVals_get]
  unfold catN
  by_cases h1 : j < n * 4
  · rw [if_pos h1, if_pos h1, if_pos (by omega), if_pos (by omega)]
  · rw [if_neg h1]
    by_cases h2 : j - n * 4 < m * 4
    · rw [if_pos h2, if_pos (by omega), if_neg (by omega), show (j - n * 4) / 4 = j / 4 - n by omega, show (j - n * 4) % 4 = j % 4 by omega]
    · rw [if_neg h2, if_neg (by omega)]
theorem ownNums_nil (w : World) (base : Nat) (F : Nat → Num) : OwnNums w base (.slice none 0 0) 0 F := World.ownsRow_nil _ _ _ _
theorem ownNums_form {w : World} {base n : Nat} {v : Value} {F : Nat → Num} (h : OwnNums w base v n F) : ∃ A c, v = .slice A n c ∧ n ≤ c ∧ NumsAt w base A n F := by
  rcases h.2 with ⟨rfl, hx⟩ | ⟨g, cap, cur, rfl, hb, hg, hnc, hm, hsz, htake⟩
  · subst hx
    exact ⟨_, _, rfl, Nat.le_refl _, NumsAt.nil_⟩
  · exact ⟨_, _, rfl, hnc, OwnNums.nums h⟩
theorem NumsAt.part {w : World} {lo n : Nat} {A : Option Addr} {F : Nat → Num} (h : NumsAt w lo A n F) {j : Nat} (hj : j < n * 4) : ∃ b o, A = some ⟨b, o, none⟩ ∧ w.cell? ⟨b, o + j, none⟩ = some (.int .i64 ((F (j / 4)).part (j % 4))) := by
  obtain ⟨b, o, rfl, -, -, h0, h1, h2, h3⟩ := h (j / 4) (by omega)
  refine ⟨b, o, rfl, ?_⟩
  have hlt := Nat.mod_lt j (show 0 < 4 by decide)
  have hd := Nat.div_add_mod j 4
  obtain e | e | e | e : j % 4 = 0 ∨ j % 4 = 1 ∨ j % 4 = 2 ∨ j % 4 = 3 := by omega
  · rw [e, show o + j = o + j / 4 * 4 by omega]; exact h0
  · rw [e, show o + j = o + j / 4 * 4 + 1 by omega]; exact h1
  · rw [e, show o + j = o + j / 4 * 4 + 2 by omega]; exact h2
  · rw [e, show o + j = o + j / 4 * 4 + 3 by omega]; exact h3
set_option maxRecDepth 100000 in
theorem run_append_nums (w : World) (ty : TypeId) (base lo : Nat) (v : Value) (n : Nat) (F : Nat → Num) (hown : OwnNums w base v n F)
    (A : Option Addr) (m c : Nat) (G : Nat → Num) (hr : NumsAt w lo A m G) (hnm : n + m ≤ 100000000) (hbase : base ≤ w.heap.size) :
    ∃ v' w', (Builtin.append_ #[49, 49] ty #[v, .slice A m c]).run Try.prog w = .ok v' w' ∧ OwnNums w' base v' (n + m) (catN n F G) ∧ Below base w w' := by
  obtain ⟨i0, hi, hz0, hz1, hz2⟩ := info_parts numInfo
  cases A with
  | none =>
    have hm : m = 0 := by
      rcases Nat.eq_zero_or_pos m with h0 | h0
      · exact h0
      · obtain ⟨b, o, e, -⟩ := hr 0 h0
        cases e
    subst hm
    have hrun : (Builtin.append_ #[49, 49] ty #[v, .slice none 0 c]).run Try.prog w = .ok v w := by
      rcases hown.2 with ⟨rfl, -⟩ | ⟨g, cap, cur, rfl, -, -, hnc, -⟩
      · simp [Builtin.append_, run_underlying Try.underlying49, sizeOf, typeInfo, hi, Builtin.lenOf, Builtin.firstCells]
      · simp [Builtin.append_, run_underlying Try.underlying49, sizeOf, typeInfo, hi, Builtin.lenOf, Builtin.firstCells, hnc, storeCells]
    exact ⟨v, w, hrun, OwnNums.congr (F := F) hown fun j hj => by unfold catN; rw [if_pos (show j < n by omega)], Below.refl _ _⟩
  | some ad =>
    obtain ⟨v', w', hrun, hown', hg, -, -⟩ := run_append_own_at (P := Try.prog) w base 49 ty 35 i0 (.agg #[.int .i64 0, .int .i64 0, .int .i64 0, .int .i64 0]) 4 32 Try.underlying49 hi hz0 hz1 hz2 rfl (by decide) v n _ hown ad m c (numVals m G) (by rw [numVals_len])
      (fun j u hu => by
        rw [numVals_get] at hu
        split at hu
        · rename_i hj
          obtain ⟨b, o, e, hc⟩ := hr.part hj
          injection e with e
          subst e
          injection hu with hu
          subst hu
          rw [Addr.add_lit]
          exact hc
        · cases hu)
      (fun u hu => by
        obtain ⟨j, -, rfl⟩ := List.mem_map.1 hu
        rfl) (by unfold maxLen; omega) (by omega) hbase
    rw [numVals_cat] at hown'
    exact ⟨v', w', hrun, hown', (Below.refl _ _).grown hg hbase (fun k hk => (World.ownsRow.lt hown k hk).1)⟩
theorem wp_append_nums {o : Oper} {a : Act} {K : Act → World → Prop} {Q : Exit → Act → World → Prop} (w : World) (s x : Operand)
    (ho : o.op = .call { callee := .builtin .append, args := #[s, x], argTypes := #[49, 49] })
    (base lo : Nat) (v : Value) (n : Nat) (F : Nat → Num) (hs : a.eval s = v) (hown : OwnNums w base v n F)
    (A : Option Addr) (m c : Nat) (G : Nat → Num) (hx : a.eval x = .slice A m c) (hr : NumsAt w lo A m G) (hnm : n + m ≤ 100000000) (hbase : base ≤ w.heap.size)
    (h : ∀ v' w', OwnNums w' base v' (n + m) (catN n F G) → Below base w w' → K (a.put o.dst v') w') : o.wp Try.prog a w K Q := by
  obtain ⟨v', w', hrun, h1, h2⟩ := run_append_nums w o.type base lo v n F hown A m c G hr hnm hbase
  unfold Oper.wp execOp
  simp only [ho, resolve, invoke, builtin, Sem.run_bind, Sem.run_pure, Result.andThen_ok, List.map_toArray, List.map_cons, List.map_nil, hs, hx, hrun]
  exact h v' w' h1 h2
theorem wpList_append_nums {ops : Array Oper} {rest : List Oper} {o : Oper} {a : Act} {Q : Exit → Act → World → Prop} (w : World) (hgd : o.guard = none) (s x : Operand)
    (ho : o.op = .call { callee := .builtin .append, args := #[s, x], argTypes := #[49, 49] })
    (base lo : Nat) (v : Value) (n : Nat) (F : Nat → Num) (hs : a.eval s = v) (hown : OwnNums w base v n F)
    (A : Option Addr) (m c : Nat) (G : Nat → Num) (hx : a.eval x = .slice A m c) (hr : NumsAt w lo A m G) (hnm : n + m ≤ 100000000) (hbase : base ≤ w.heap.size)
    (h : ∀ v' w', OwnNums w' base v' (n + m) (catN n F G) → Below base w w' → wpList Try.prog ops Q rest (a.put o.dst v') w') : wpList Try.prog ops Q (o :: rest) a w :=
  wpList_plain hgd fun _ hK => wp_append_nums w s x ho base lo v n F hs hown A m c G hx hr hnm hbase fun v' w' h1 h2 => hK _ _ (h v' w' h1 h2)
theorem step_append_nums {ops : Array Oper} {o : Oper} {a : Act} {K : Act → World → Prop} {Q : Exit → Act → World → Prop} {E : Prop} (w : World) (hgd : o.guard = none) (s x : Operand)
    (ho : o.op = .call { callee := .builtin .append, args := #[s, x], argTypes := #[49, 49] })
    (base lo : Nat) (v : Value) (n : Nat) (F : Nat → Num) (hs : a.eval s = v) (hown : OwnNums w base v n F)
    (A : Option Addr) (m c : Nat) (G : Nat → Num) (hx : a.eval x = .slice A m c) (hr : NumsAt w lo A m G) (hnm : n + m ≤ 100000000) (hbase : base ≤ w.heap.size)
    (h : ∀ v' w', OwnNums w' base v' (n + m) (catN n F G) → Below base w w' → K (a.put o.dst v') w') :
    if Region.wanted o (yielded ops a.tmps) = true then Oper.wp Try.prog o a w K Q else E := by
  have hw : Region.wanted o (yielded ops a.tmps) = true := by simp [Region.wanted, hgd]
  rw [if_pos hw]
  exact wp_append_nums w s x ho base lo v n F hs hown A m c G hx hr hnm hbase h
end Go.Proofs.Ytibdbopejnkefaa
/- partsError; numberWithin and its function; numberOf, conjugate, squareOf. -/
namespace Go.Proofs.Ytibdbopejnkefaa
open Go.RowKit
set_option maxHeartbeats 1000000 in
theorem partsError_any (M : Int) (A : Option Addr) (n c : Nat) (F : Nat → Int) (w : World) (hn : n ≤ 1000000) (hM : 0 ≤ M ∧ M ≤ 9000000000000000000) (hI : IntsAt w 0 A n F) :
    Calls Try.prog 51 #[.int .i64 M, .slice A n c] w fun e w' => e = .returned (.int .i64 (sizeE M F n)) ∧ w = w' := by
  have HI := hide hI
  have q1 : IntKind.i64.wrap (-M) = -M := IntWalk.i64_in _ (by omega)
  clear hI hM
  go_enter Try.func51, Try.ntmps51
  go_wp2_with fail
  go_loopw [9] (fun i wr => ∃ k : Nat, k ≤ n ∧ i = .int .i64 (k : Int) ∧ Hid (badE (fun j => unI (withinB (F j) (-M) M) 2) k = 0) ∧ w = wr) (fun i _ => n - (Go.RowKit.intOf i).toNat)
  case atStart => exact ⟨0, Nat.zero_le _, rfl, hide rfl, rfl⟩
  case round =>
    obtain ⟨k, hk, rfl, HZ, rfl⟩ := hrel
    by_cases hlt : k < n
    · have hltz : (k : Int) < (n : Int) := by omega
      obtain ⟨b, o, rfl, -, hb, hcell⟩ := HI.out k hlt
      have hg := hide (badE_succ HZ.out)
      have HA := hide (badE_at HZ.out (n := n) · hlt)
      cases hw : withinB (F k) (-M) M
      · have HQ := hide (show sizeE M F n = 2 from by
          have h1 : unI (withinB (F k) (-M) M) 2 = 2 := by rw [hw]; rfl
          have h2 := badE_at (g := fun j => unI (withinB (F j) (-M) M) 2) HZ.out (by show unI (withinB (F k) (-M) M) 2 ≠ 0; rw [h1]; decide) n hlt
          exact h2.trans h1)
        clear HA hg
        go_wp2_with fail
        refine (isWithin_any _ _ _ _).mono ?_
        rintro e w' ⟨rfl, rfl⟩
        rw [hw]
        go_wp2_with fail
        go_ret
        exact ⟨ret_int HQ.out.symm, rfl⟩
      · have HN := hide (show badE (fun j => unI (withinB (F j) (-M) M) 2) (k + 1) = 0 from by
          rw [badE_succ HZ.out]
          show unI (withinB (F k) (-M) M) 2 = 0
          rw [hw]; rfl)
        clear HA hg
        go_wp2_with fail
        refine (isWithin_any _ _ _ _).mono ?_
        rintro e w' ⟨rfl, rfl⟩
        rw [hw]
        go_wp2_with fail
        go_roundw
        case rel => exact ⟨k + 1, by omega, by go_num, HN, by first | rfl | trivial⟩
        case measure => simp [Go.RowKit.intOf]; omega
    · obtain rfl : k = n := by omega
      go_wp2_with fail
      go_ret
      exact ⟨ret_int HZ.out.symm, rfl⟩
set_option maxHeartbeats 1000000 in
set_option maxRecDepth 100000 in
theorem numberWithin1_any (x : Num) (M : Int) (b : Nat) (w : World) (hm : w.cell? ⟨b, 0, none⟩ = some (.int .i64 M)) (hM : 0 ≤ M ∧ M ≤ 9000000000000000000) :
    Calls Try.prog 50 #[.agg #[.int .i64 x.a, .int .i64 x.b, .int .i64 x.c, .int .i64 x.d], .pointer (some ⟨b, 0, none⟩)] w fun e w' => e = .returned (.int .i64 (x.err M)) ∧ Below w.heap.size w w' := by
  have hb := World.block_lt_of_cell? w _ hm
  simp only at hb
  have hm2 : (w.alloc (.cells #[.int .i64 x.a, .int .i64 x.b, .int .i64 x.c, .int .i64 x.d] 35)).cell? ⟨b, 0, none⟩ = some (.int .i64 M) := (((Below.refl w.heap.size w).alloc (Nat.le_refl _) _).cell (p := ⟨b, 0, none⟩) hb).trans hm
  have HPE := hide (fun (W : World) (g : Nat) (hg : g = W.heap.size) => partsError_any M (some ⟨g, 0, none⟩) 4 4 (fun j => [x.a, x.b, x.c, x.d].getD j 0) (W.alloc (.cells #[.int .i64 x.a, .int .i64 x.b, .int .i64 x.c, .int .i64 x.d] 3)) (by decide) hM (fun k hk => by
    have hb : Box (W.alloc (.cells #[.int .i64 x.a, .int .i64 x.b, .int .i64 x.c, .int .i64 x.d] 3)) g 3 #[.int .i64 x.a, .int .i64 x.b, .int .i64 x.c, .int .i64 x.d] := Box.made hg
    refine ⟨_, _, rfl, Nat.zero_le _, hb.lt, ?_⟩
    rw [hb.at_]
    match k, hk with
    | 0, _ => rfl
    | 1, _ => rfl
    | 2, _ => rfl
    | 3, _ => rfl))
  rw [size4 M x.a x.b x.c x.d (fun j => [x.a, x.b, x.c, x.d].getD j 0) rfl rfl rfl rfl] at HPE
  clear hm hM
  go_enter Try.func50, Try.ntmps50
  go_wp2_with fail
  refine (HPE.out _ _ (by simp)).mono ?_
  rintro e w1 ⟨rfl, rfl⟩
  go_wp2_with fail
  go_ret
  exact ⟨rfl, by (repeat (first | (with_reducible exact Below.refl _ _) | (with_reducible refine Go.below_drewN ?_ _) | (with_reducible refine Below.drew ?_) | (with_reducible refine Below.alloc ?_ (by first | exact Nat.le_refl _ | (simp; done) | (simp; omega) | omega) _) | (with_reducible refine Below.setCell ?_ (by first | exact Nat.le_refl _ | (simp; done) | (simp; omega) | omega) _)))⟩
end Go.Proofs.Ytibdbopejnkefaa
/- firstWrong, itemsError of numbers; smallError, resultError. -/
namespace Go.Proofs.Ytibdbopejnkefaa
open Go.RowKit
set_option maxHeartbeats 2000000 in
theorem firstWrong_nums (g : Nat) (lb : Array Value) (eg : ∀ args w, (callFunc g args).run Try.prog w = .ok (.enter g args) w) (p : Num → Int) (A : Option Addr) (n c : Nat) (F : Nat → Num) (w : World)
    (hn : n ≤ 100000) (hI : NumsAt w 0 A n F) (hp : ∀ (x : Num) W, Below w.heap.size w W → Calls Try.prog g (#[.agg #[.int .i64 x.a, .int .i64 x.b, .int .i64 x.c, .int .i64 x.d]] ++ lb) W fun e w' => e = .returned (.int .i64 (p x)) ∧ Below W.heap.size W w') :
    Calls Try.prog 49 #[.slice A n c, .func (.func g) #[] lb] w fun e w' => e = .returned (.tuple #[.int .i64 (badI (fun j => p (F j)) n : Nat), .int .i64 (badE (fun j => p (F j)) n)]) ∧ Below w.heap.size w w' := by
  have HP := hide hp
  have HI := hide hI
  clear hp hI
  go_enter Try.func49, Try.ntmps49
  go_wp2_with fail
  go_loopg [11] n (fun gg s wr => ∃ k : Nat, k ≤ n ∧ n - k ≤ gg ∧ s = .int .i64 (k : Int) ∧ Hid (badE (fun j => p (F j)) k = 0) ∧ Below w.heap.size w wr)
  case atStart => exact ⟨0, Nat.zero_le _, by omega, rfl, hide rfl, Below.refl _ _⟩
  case round =>
    obtain ⟨k, hk, hg, rfl, HZ, hB⟩ := hrel
    obtain ⟨wA, rfl⟩ : ∃ x : World, x = wr := ⟨_, rfl⟩
    have hBs := hB.size
    by_cases hlt : k < n
    · have hltz : (k : Int) < (n : Int) := by omega
      obtain ⟨b, o, rfl, -, hb, c0, c1, c2, c3⟩ := (HI.out.below hB) k hlt
      have HQ := hide (show p (F k) ≠ 0 → badE (fun j => p (F j)) n = p (F k) ∧ badI (fun j => p (F j)) n = k from fun h => ⟨badE_at (g := fun j => p (F j)) HZ.out h n hlt, badI_at (g := fun j => p (F j)) HZ.out h n hlt⟩)
      have HN := hide (show p (F k) = 0 → badE (fun j => p (F j)) (k + 1) = 0 from fun h => by rw [badE_succ HZ.out]; exact h)
      generalize F k = x at *
      have HC := hide (fun W hW => HP.out x W hW)
      generalize p x = r at *
      go_upto_region 4 with fail
      obtain ⟨W1, hW1⟩ : ∃ y : World, y = wA.alloc (.cells #[.int .i64 x.a, .int .i64 x.b, .int .i64 x.c, .int .i64 x.d] 35) := ⟨_, rfl⟩
      rw [← hW1]
      have bx1 : Box W1 wA.heap.size 35 #[.int .i64 x.a, .int .i64 x.b, .int .i64 x.c, .int .i64 x.d] := by rw [hW1]; exact Box.made rfl
      have hB1 : Below w.heap.size w W1 := by rw [hW1]; exact hB.alloc hBs _
      clear hW1 hB hb c0 c1 c2 c3
      obtain ⟨y0, y1, y2, y3, g0, g1, g2, g3, hl'⟩ := bx1.cells4
      have hcall := HC.out W1 hB1
      by_cases hr : r = 0
      · have HN2 := hide (HN.out hr)
        subst hr
        clear HQ HN
        go_wp2_with (go_at_fn g; refine hcall.mono ?_; rintro e w2 ⟨rfl, hb2⟩)
        go_roundg (n - (k + 1))
        case measure => omega
        case rel => exact ⟨k + 1, by omega, by omega, by go_num, HN2, hB1.trans (hb2.mono hB1.size)⟩
      · have t1 : (r != 0) = true := by simpa using hr
        have HQ2 := hide (HQ.out hr)
        clear HQ HN hr
        go_wp2_with (go_at_fn g; refine hcall.mono ?_; rintro e w2 ⟨rfl, hb2⟩)
        go_ret2
        exact ⟨by rw [HQ2.out.1, HQ2.out.2]; rfl, hB1.trans (hb2.mono hB1.size)⟩
    · obtain rfl : k = n := by omega
      go_wp2_with fail
      go_ret2
      exact ⟨by rw [HZ.out, badI_zero HZ.out]; rfl, hB⟩
end Go.Proofs.Ytibdbopejnkefaa
/- numberWithin, itemsError of numbers, smallError, resultError of the code. -/
namespace Go.Proofs.Ytibdbopejnkefaa
open Go.RowKit
set_option maxHeartbeats 1000000 in
theorem numberWithin_any (M : Int) (w : World) :
    Calls Try.prog 31 #[.int .i64 M] w fun e w' => e = .returned (.func (.func 50) #[] #[.pointer (some ⟨w.heap.size, 0, none⟩)]) ∧ w.alloc (.cells #[.int .i64 M] 3) = w' := by
  go_enter Try.func31, Try.ntmps31
  go_wp2_with fail
  go_ret
  exact ⟨rfl, rfl⟩
/-- The error of n numbers of size M at most. -/
def numsE (M : Int) (F : Nat → Num) (n : Nat) : Int := badE (fun j => (F j).err M) n
set_option maxHeartbeats 1000000 in
theorem itemsError_nums (M : Int) (A : Option Addr) (n c b : Nat) (F : Nat → Num) (w : World) (hn : n ≤ 100000) (hI : NumsAt w 0 A n F) (hm : w.cell? ⟨b, 0, none⟩ = some (.int .i64 M)) (hM : 0 ≤ M ∧ M ≤ 9000000000000000000) :
    Calls Try.prog 30 #[.slice A n c, .func (.func 50) #[] #[.pointer (some ⟨b, 0, none⟩)]] w fun e w' => e = .returned (.int .i64 (numsE M F n)) ∧ Below w.heap.size w w' := by
  have hb := World.block_lt_of_cell? w _ hm
  simp only at hb
  have HX := hide (firstWrong_nums 50 #[.pointer (some ⟨b, 0, none⟩)] (enters_of Try.func50 (by kernel_rfl) rfl) (fun x => x.err M) A n c F w hn hI (fun x W hW => numberWithin1_any x M b W ((hW.cell (p := ⟨b, 0, none⟩) hb).trans hm) hM))
  clear hI hm hb
  go_enter Try.func30, Try.ntmps30
  go_wp2_with (go_at_call 49; refine HX.out.mono ?_; rintro e w' ⟨rfl, hb1⟩)
  go_ret
  exact ⟨rfl, hb1⟩
set_option maxHeartbeats 1000000 in
theorem smallError_any (A : Option Addr) (n c : Nat) (F : Nat → Num) (w : World) (hn : n ≤ 100000) (hI : NumsAt w 0 A n F) :
    Calls Try.prog 21 #[.slice A n c] w fun e w' => e = .returned (.int .i64 (numsE 1000000000 F n)) ∧ Below w.heap.size w w' := by
  have HI := hide hI
  clear hI
  go_enter Try.func21, Try.ntmps21
  go_wp2_with fail
  refine (numberWithin_any _ _).mono ?_
  rintro e w1 ⟨rfl, hw1⟩
  have hc : w1.cell? ⟨w.heap.size, 0, none⟩ = some (.int .i64 1000000000) := by rw [← hw1]; exact (Box.made rfl : Box _ w.heap.size 3 #[.int .i64 1000000000]).at_ 0
  have hB1 : Below w.heap.size w w1 := by rw [← hw1]; exact (Below.refl _ _).alloc (Nat.le_refl _) _
  clear hw1
  go_wp2_with fail
  refine (itemsError_nums 1000000000 A n c w.heap.size F _ hn (HI.out.below hB1) hc (by decide)).mono ?_
  rintro e w2 ⟨rfl, hb2⟩
  go_wp2_with fail
  go_ret
  exact ⟨rfl, hB1.trans (hb2.mono hB1.size)⟩
end Go.Proofs.Ytibdbopejnkefaa
/- Turned of the code. -/
namespace Go.Proofs.Ytibdbopejnkefaa
open Go.RowKit
/-- The first of two errors. -/
def twoE (a b : Int) : Int := if a = 0 then b else a
theorem firstE_two (a b : Int) : firstE [a, b] = twoE a b := by
  unfold twoE firstE
  by_cases h : a = 0
  · rw [if_pos h, if_pos h]
    unfold firstE
    by_cases h2 : b = 0
    · rw [if_pos h2, h2]; rfl
    · rw [if_neg h2]
  · rw [if_neg h, if_neg h]
def turnedE (x : Num) (n : Int) : Int := twoE (x.err 1000000000) (unI (withinB n 0 7) 2)
/-- What Turned hands back. -/
def turnedR (x : Num) (n : Int) : Num := if turnedE x n = 0 then x.turns (n % 8).toNat else Num.zero
theorem numsE_one (M : Int) (x : Num) : numsE M (fun _ => x) 1 = x.err M := by
  unfold numsE badE badE
  rw [if_pos rfl]
theorem err_within {M : Int} {x : Num} (h : x.err M = 0) : x.Within M := by
  unfold Num.err unI at h
  by_cases h1 : x.isIn M = true
  · exact Num.isIn_iff.1 h1
  · rw [if_neg h1] at h; exact absurd h (by decide)
theorem NumsAt.one {w : World} {b : Nat} {t : TypeId} {x : Num} (h : Box w b t #[.int .i64 x.a, .int .i64 x.b, .int .i64 x.c, .int .i64 x.d]) : NumsAt w 0 (some ⟨b, 0, none⟩) 1 (fun _ => x) := fun i hi => by
  obtain rfl : i = 0 := by omega
  obtain ⟨z0, z1, z2, z3, -⟩ := h.cells4
  exact ⟨b, 0, rfl, Nat.zero_le _, h.lt, by simpa using z0, by simpa using z1, by simpa using z2, by simpa using z3⟩
set_option maxHeartbeats 2000000 in
set_option maxRecDepth 100000 in
theorem Turned_any (x : Num) (n : Int) (w : World) :
    Calls Try.prog 10 #[.agg #[.int .i64 x.a, .int .i64 x.b, .int .i64 x.c, .int .i64 x.d], .int .i64 n] w fun e w' => e = .returned (.tuple #[.agg #[.int .i64 (turnedR x n).a, .int .i64 (turnedR x n).b, .int .i64 (turnedR x n).c, .int .i64 (turnedR x n).d], .int .i64 (turnedE x n)]) ∧ Below w.heap.size w w' := by
  have HE := hide (show firstE [x.err 1000000000, unI (withinB n 0 7) 2] = turnedE x n from firstE_two _ _)
  have HZ := hide (show turnedE x n = 0 → x.Within 1000000000 from fun h => by
    unfold turnedE twoE at h
    by_cases h1 : x.err 1000000000 = 0
    · exact err_within h1
    · rw [if_neg h1] at h; exact absurd h h1)
  have HR := hide (show turnedR x n = if turnedE x n = 0 then x.turns (n % 8).toNat else Num.zero from rfl)
  generalize turnedR x n = Y at *
  generalize turnedE x n = V at *
  go_enter Try.func10, Try.ntmps10
  go_upto_region 1 with fail
  obtain ⟨W, hW⟩ : ∃ y : World, y = (w.alloc (.cells #[.int .i64 x.a, .int .i64 x.b, .int .i64 x.c, .int .i64 x.d] 35)).alloc (.cells #[.int .i64 0, .int .i64 0, .int .i64 0, .int .i64 0] 35) := ⟨_, rfl⟩
  rw [← hW]
  have bx : Box W w.heap.size 35 #[.int .i64 x.a, .int .i64 x.b, .int .i64 x.c, .int .i64 x.d] := by rw [hW]; exact (Box.made rfl).alloc _
  have by' : Box W (w.heap.size + 1) 35 #[.int .i64 0, .int .i64 0, .int .i64 0, .int .i64 0] := by rw [hW]; exact Box.made (by simp)
  have hB : Below w.heap.size w W := by rw [hW]; (repeat (first | (with_reducible exact Below.refl _ _) | (with_reducible refine Go.below_drewN ?_ _) | (with_reducible refine Below.drew ?_) | (with_reducible refine Below.alloc ?_ (by first | exact Nat.le_refl _ | (simp; done) | (simp; omega) | omega) _) | (with_reducible refine Below.setCell ?_ (by first | exact Nat.le_refl _ | (simp; done) | (simp; omega) | omega) _)))
  clear hW
  obtain ⟨x0, x1, x2, x3, f0, f1, f2, f3, hlx⟩ := bx.cells4
  go_wp2_with fail
  have hB0 : Below W.heap.size W (W.alloc (.cells #[.int .i64 x.a, .int .i64 x.b, .int .i64 x.c, .int .i64 x.d] 35)) := (Below.refl _ _).alloc (Nat.le_refl _) _
  refine (smallError_any (some ⟨W.heap.size, 0, none⟩) 1 1 (fun _ => x) _ (by decide) (NumsAt.one (Box.made rfl))).mono ?_
  rintro e w1 ⟨rfl, hb1⟩
  rw [numsE_one]
  have hb1' := hB0.trans (hb1.mono (by simp))
  have bx1 := bx.below hb1'
  have by1 := by'.below hb1'
  have hB1 := hB.trans (hb1'.mono hB.size)
  clear x0 x1 x2 x3 f0 f1 f2 f3 hlx bx by' hB hB0 hb1 hb1'
  go_wp2_with (go_at_call 22; refine (eighthsError_any _ _).mono ?_; rintro e w' ⟨rfl, rfl⟩)
  refine (firstError_laid [x.err 1000000000, unI (withinB n 0 7) 2] 2 _ _ rfl (by decide)).mono ?_
  rintro e w2 ⟨rfl, hw2⟩
  rw [HE.out]
  have bx2 : Box w2 w.heap.size 35 #[.int .i64 x.a, .int .i64 x.b, .int .i64 x.c, .int .i64 x.d] := by rw [← hw2]; exact bx1.alloc _
  have by2 : Box w2 (w.heap.size + 1) 35 #[.int .i64 0, .int .i64 0, .int .i64 0, .int .i64 0] := by rw [← hw2]; exact by1.alloc _
  have hB2 : Below w.heap.size w w2 := by rw [← hw2]; exact hB1.alloc hB1.size _
  clear hw2 bx1 by1 hB1
  by_cases hv : V = 0
  · have HX := hide (HZ.out hv)
    have tv : (V != 0) = false := by simpa using hv
    have HV := hide hv
    obtain ⟨x0, x1, x2, x3, f0, f1, f2, f3, hlx⟩ := bx2.cells4
    subst hv
    go_wp2_with fail
    refine (turned_any x n _ (HX.out.more (by decide))).mono ?_
    rintro e w3 ⟨rfl, hb3⟩
    have by3 := by2.below hb3
    have hB3 := hB2.trans (hb3.mono hB2.size)
    clear x0 x1 x2 x3 f0 f1 f2 f3 hlx bx2 by2 hB2 hb3
    obtain ⟨y0, y1, y2, y3, g0, g1, g2, g3, hly⟩ := by3.cells4
    obtain ⟨z, hz⟩ : ∃ z, x.turns (n % 8).toNat = z := ⟨_, rfl⟩
    rw [hz]
    have HC := hide (by3.put4 (.int .i64 z.a) (.int .i64 z.b) (.int .i64 z.c) (.int .i64 z.d)).cells4
    have HBL := hide (Below.put4 hB3 (Nat.le_succ _) (.int .i64 z.a) (.int .i64 z.b) (.int .i64 z.c) (.int .i64 z.d))
    have HZZ := hide hz
    clear hz by3 hB3
    go_wp2_with fail
    clear y0 y1 y2 y3
    obtain ⟨y0, y1, y2, y3, -⟩ := HC.out
    refine bodyPost_ret (v := .tuple #[.agg #[.int .i64 z.a, .int .i64 z.b, .int .i64 z.c, .int .i64 z.d], .int .i64 0]) ?_ rfl ⟨by rw [show Y = z from by rw [HR.out]; simpa using HZZ.out], HBL.out⟩
    simp [results, Try.results10, go_sem, y0, y1, y2, y3]
  · have tv : (V != 0) = true := by simpa using hv
    have HV := hide hv
    obtain ⟨y0, y1, y2, y3, g0, g1, g2, g3, hly⟩ := by2.cells4
    have HC := hide (by2.put4 (.int .i64 0) (.int .i64 0) (.int .i64 0) (.int .i64 0)).cells4
    have HBL := hide (Below.put4 hB2 (Nat.le_succ _) (.int .i64 0) (.int .i64 0) (.int .i64 0) (.int .i64 0))
    clear hv bx2 by2 hB2
    go_wp2_with fail
    clear y0 y1 y2 y3
    obtain ⟨y0, y1, y2, y3, -⟩ := HC.out
    refine bodyPost_ret (v := .tuple #[.agg #[.int .i64 0, .int .i64 0, .int .i64 0, .int .i64 0], .int .i64 V]) ?_ rfl ⟨by rw [show Y = Num.zero from by rw [HR.out, if_neg HV.out]]; rfl, HBL.out⟩
    simp [results, Try.results10, go_sem, y0, y1, y2, y3]
end Go.Proofs.Ytibdbopejnkefaa
/- within, IsSmall, EighthsErr, Turn, Plus of the reference; Mod of the base. -/
namespace Go.Proofs.Ytibdbopejnkefaa
open Go.RowKit
set_option maxHeartbeats 400000 in
theorem modN_any (n m : Int) (w : World) (h0 : 0 < m) (h1 : m ≤ 1000000000) :
    Calls Try.prog 41 #[.int .i64 n, .int .i64 m] w fun e w' => e = .returned (.int .i64 (n % m)) ∧ w = w' := by
  have hm0 : ¬ m = 0 := by omega
  by_cases hn : 0 ≤ n
  · have hb := Int.emod_nonneg n (show m ≠ 0 by omega)
    have hb2 := Int.emod_lt_of_pos n h0
    go_enter Try.func41, Try.ntmps41
    go_wp2_with fail
    go_ret
    exact ⟨rfl, rfl⟩
  · have hneg : n < 0 := by omega
    obtain ⟨r, hr⟩ : ∃ r, r = n.tmod m := ⟨_, rfl⟩
    have hr' := hr.symm
    have hle : -m < r ∧ r ≤ 0 := by
      rw [hr]
      have e := Int.neg_tmod (-n) m
      rw [Int.neg_neg] at e
      rw [e]
      have h2 : (-n).tmod m = (-n) % m := Int.tmod_eq_emod_of_nonneg (by omega)
      rw [h2]
      have := Int.emod_nonneg (-n) (show m ≠ 0 by omega)
      have := Int.emod_lt_of_pos (-n) h0
      omega
    have hdm : n % m = if r < 0 then r + m else r := by
      have h3 := Int.mul_tdiv_add_tmod n m
      rw [← hr] at h3
      split
      · have : n = (r + m) + m * (n.tdiv m - 1) := by rw [Int.mul_sub]; omega
        rw [this, Int.add_mul_emod_self_left]
        exact Int.emod_eq_of_lt (by omega) (by omega)
      · have h0r : r = 0 := by omega
        have : n = 0 + m * n.tdiv m := by omega
        rw [this, Int.add_mul_emod_self_left, h0r]
        rfl
    have HD := hide hdm
    obtain ⟨l1, l2⟩ := hle
    have hnn : ¬ 0 ≤ n := hn
    clear hdm hr hn
    by_cases hrz : r < 0
    · go_enter Try.func41, Try.ntmps41
      go_wp2_with fail
      go_ret
      exact ⟨ret_int (by rw [HD.out, if_pos hrz]), rfl⟩
    · have hr0 : 0 ≤ r := by omega
      have HRZ := hide hrz
      clear hrz
      go_enter Try.func41, Try.ntmps41
      go_wp2_with fail
      go_ret
      exact ⟨ret_int (by rw [HD.out, if_neg (Int.not_lt.2 HRZ.out)]), rfl⟩


theorem mod8 (n : Int) (w : World) : Calls Try.prog 41 #[.int .i64 n, .int .i64 8] w fun e w' => e = .returned (.int .i64 (n % 8)) ∧ w = w' := modN_any n 8 w (by decide) (by decide)
end Go.Proofs.Ytibdbopejnkefaa
/- The reference: CopyNumbers, NumbersErr, SamplesErr, Conj. -/
namespace Go.Proofs.Ytibdbopejnkefaa
open Go.RowKit
theorem OwnNums.empty (w : World) (g : Nat) (hg : g = w.heap.size) (F : Nat → Num) : OwnNums (w.alloc (.cells #[] 35)) w.heap.size (.slice (some ⟨g, 0, none⟩) 0 0) 0 F := by
  subst hg
  exact World.ownsRow_made w #[] 0 (Nat.le_refl _) (by decide) rfl
/-- The error of samples. -/
def sampE (n : Nat) (F : Nat → Num) : Int := if 120 < n then 8 else numsE 1000000000 F n
end Go.Proofs.Ytibdbopejnkefaa
/- The reference: Same, Conj, Shifted. -/
namespace Go.Proofs.Ytibdbopejnkefaa
open Go.RowKit
/-- Numbers that are turned on. -/
def shiftN (F : Nat → Num) (q : Int) (j : Nat) : Num := (F j).turns ((q * (j : Int)) % 8).toNat
end Go.Proofs.Ytibdbopejnkefaa
/- turnedOn of the code. -/
namespace Go.Proofs.Ytibdbopejnkefaa
open Go.RowKit
set_option maxHeartbeats 400000 in
set_option maxRecDepth 100000 in
theorem turnedOn_any (A : Option Addr) (n c : Nat) (F : Nat → Num) (e : Int) (w : World) (hn : n ≤ 100000) (he : -1000 ≤ e ∧ e ≤ 1000) (hI : NumsAt w 0 A n F) (hF : ∀ i, i < n → (F i).Within 4611686018427387904) :
    Calls Try.prog 35 #[.slice A n c, .int .i64 e] w fun r w' => ∃ v, r = .returned v ∧ OwnNums w' w.heap.size v n (fun i => (F i).turns ((e * (i : Int)) % 8).toNat) ∧ Below w.heap.size w w' := by
  have hmk := fun W => make_nums n (by omega) W
  have HI := hide hI
  have HT := hide (fun i (hi : i < n) W => turned_any (F i) (e * (i : Int)) W (hF i hi))
  have HW := hide (fun i (hi : i < n) => (show IntKind.i64.wrap (e * (i : Int)) = e * (i : Int) from IntWalk.i64_in _ (by
    have := mul_within (M := 1000) (N := 100000) he (show -100000 ≤ (i : Int) ∧ (i : Int) ≤ 100000 by omega)
    omega)))
  have hmade := hide (OwnNums.made w w.heap.size w.heap.size n (Nat.le_refl _) rfl (by unfold maxLen; omega))
  clear hI hF he
  go_enter Try.func35, Try.ntmps35
  go_wp2_with fail
  clear hmk
  go_loopw [13] (fun i wr => ∃ k : Nat, k ≤ n ∧ i = .int .i64 (k : Int) ∧ OwnNums wr w.heap.size (.slice (some ⟨w.heap.size, 0, none⟩) n n) n (fun i => if i < k then (F i).turns ((e * (i : Int)) % 8).toNat else Num.zero) ∧ Below w.heap.size w wr) (fun i _ => n - (Go.RowKit.intOf i).toNat)
  case atStart => exact ⟨0, Nat.zero_le _, rfl, hmade.out.congr (fun _ _ => by simp), by (repeat (first | (with_reducible exact Below.refl _ _) | (with_reducible refine Go.below_drewN ?_ _) | (with_reducible refine Below.drew ?_) | (with_reducible refine Below.alloc ?_ (by first | exact Nat.le_refl _ | (simp; done) | (simp; omega) | omega) _) | (with_reducible refine Below.setCell ?_ (by first | exact Nat.le_refl _ | (simp; done) | (simp; omega) | omega) _)))⟩
  case round =>
    clear hmade
    obtain ⟨k, hk, rfl, ho, hB⟩ := hrel
    obtain ⟨wA, rfl⟩ : ∃ x : World, x = wr := ⟨_, rfl⟩
    have hBs := hB.size
    by_cases hlt : k < n
    · have hltz : (k : Int) < (n : Int) := by omega
      obtain ⟨b, o, rfl, -, hb, c0, c1, c2, c3⟩ := (HI.out.below hB) k hlt
      have HTk := hide (fun W => HT.out k hlt W)
      have q1 := HW.out k hlt
      have HE := hide (fun (G : Nat → Num) (x : Num) (hx : x = (F k).turns ((e * (k : Int)) % 8).toNat) (hG : G = fun i => if i < k then (F i).turns ((e * (i : Int)) % 8).toNat else Num.zero) i (_ : i < n) => (show setNum G k x i = if i < k + 1 then (F i).turns ((e * (i : Int)) % 8).toNat else Num.zero from by
        subst hx; subst hG
        unfold setNum
        by_cases e1 : i = k
        · subst e1; rw [if_pos rfl, if_pos (by omega)]
        · rw [if_neg e1]
          show (if i < k then (F i).turns ((e * (i : Int)) % 8).toNat else Num.zero) = _
          by_cases e2 : i < k
          · rw [if_pos e2, if_pos (by omega)]
          · rw [if_neg e2, if_neg (by omega)]))
      obtain ⟨G, hG⟩ : ∃ G, G = fun i => if i < k then (F i).turns ((e * (i : Int)) % 8).toNat else Num.zero := ⟨_, rfl⟩
      obtain ⟨y, hy⟩ : ∃ y, y = (F k).turns ((e * (k : Int)) % 8).toNat := ⟨_, rfl⟩
      have HEE := hide (HE.out G y hy hG)
      rw [← hG] at ho
      rw [← hy] at HTk
      clear hG hy HE
      generalize F k = x at *
      obtain ⟨m, hm⟩ : ∃ m, m = e * (k : Int) := ⟨_, rfl⟩
      rw [← hm] at HTk
      replace q1 := q1.trans hm.symm
      clear hm
      go_upto_region 5 with fail
      obtain ⟨W1, hW1⟩ : ∃ y : World, y = wA.alloc (.cells #[.int .i64 x.a, .int .i64 x.b, .int .i64 x.c, .int .i64 x.d] 35) := ⟨_, rfl⟩
      rw [← hW1]
      have bx1 : Box W1 wA.heap.size 35 #[.int .i64 x.a, .int .i64 x.b, .int .i64 x.c, .int .i64 x.d] := by rw [hW1]; exact Box.made rfl
      have ho1 := ho.alloc (.cells #[.int .i64 x.a, .int .i64 x.b, .int .i64 x.c, .int .i64 x.d] 35)
      have hB1 := hB.alloc hBs (.cells #[.int .i64 x.a, .int .i64 x.b, .int .i64 x.c, .int .i64 x.d] 35)
      rw [← hW1] at ho1 hB1
      clear hW1 ho hB hb c0 c1 c2 c3
      obtain ⟨y0, y1, y2, y3, g0, g1, g2, g3, hl'⟩ := bx1.cells4
      go_wp2_with fail
      refine (HTk.out _).mono ?_
      rintro r w2 ⟨rfl, hb2⟩
      have hc2 : Below W1.heap.size W1 w2 := by first | exact hb2 | exact below_of_drew hb2
      have ho2 := ho1.below hc2
      have hB2 := hB1.trans (hc2.mono hB1.size)
      clear y0 y1 y2 y3 g0 g1 g2 g3 hl' bx1 ho1 hB1 hb2 hc2
      obtain ⟨z0, z1, z2, z3⟩ := ho2.cells hlt
      obtain ⟨f0, f1, f2, f3⟩ := ho2.frozen4 k
      have hlw := ho2.lt.2
      have HOO := hide (ho2.put k y)
      have HBB := hide (Below.put4at (o := k * 4) hB2 (Nat.le_refl _) (.int .i64 y.a) (.int .i64 y.b) (.int .i64 y.c) (.int .i64 y.d))
      clear ho2 hB2
      go_wp2_with fail
      go_roundw
      case rel => exact ⟨k + 1, by omega, by go_num, HOO.out.congr HEE.out, HBB.out⟩
      case measure => simp [Go.RowKit.intOf]; omega
    · obtain rfl : k = n := by omega
      go_wp2_with fail
      go_ret
      exact ⟨_, rfl, ho.congr (fun i hi => by rw [if_pos hi]), hB⟩
end Go.Proofs.Ytibdbopejnkefaa
