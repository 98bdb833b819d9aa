/- Lemmas: Ya, Yb, Yc, Yd, Ye, Yf. -/
import Derived.Laws.MakeOwn
import Derived.Laws.OwnMore
import Derived.OwnWalk
import Derived.BigQuiet
import Derived.Lib.MinMax
import Derived.Deep.DeepCutAuto
import Derived.Test.YtmcgmlhpbpjmgaaBk01
import Derived.Test.YtmcgmlhpbpjmgaaBk09
import Derived.Test.YtmcgmlhpbpjmgaaClW
set_option linter.unusedVariables false
set_option linter.unusedSimpArgs false
/- Slices of api.Phasor in memory, those of the call's own, an append to one. -/
namespace Go.Proofs.Ytmcgmlhpbpjmgaa
open Go.RowKit
structure Pha where
  re : Int
  im : Int
  den : Int
theorem Pha.same {x y : Pha} (h0 : x.re = y.re) (h1 : x.im = y.im) (h2 : x.den = y.den) : x = y := by
  cases x; cases y; simp_all
def Pha.zero : Pha := ⟨0, 0, 0⟩
def Pha.part (x : Pha) (i : Nat) : Int := if i = 0 then x.re else if i = 1 then x.im else x.den
def PhasAt (w : World) (lo : Nat) (A : Option Addr) (n : Nat) (F : Nat → Pha) : Prop :=
  ∀ i, i < n → ∃ b o, A = some ⟨b, o, none⟩ ∧ lo ≤ b ∧ b < w.heap.size ∧ w.cell? ⟨b, o + i * 3, none⟩ = some (.int .i64 (F i).re) ∧ w.cell? ⟨b, o + i * 3 + 1, none⟩ = some (.int .i64 (F i).im) ∧ w.cell? ⟨b, o + i * 3 + 2, none⟩ = some (.int .i64 (F i).den)
section
variable {w w' : World} {lo n : Nat} {A : Option Addr} {F : Nat → Pha}
theorem PhasAt.nil_ : PhasAt w lo A 0 F := fun i h => absurd h (Nat.not_lt_zero i)
theorem PhasAt.below (h : PhasAt w lo A n F) (hb : Below w.heap.size w w') : PhasAt w' lo A n F := fun i hi => by
  obtain ⟨b, o, e, h1, h2, k0, k1, k2⟩ := h i hi
  exact ⟨b, o, e, h1, Nat.lt_of_lt_of_le h2 hb.size, (hb.cell (p := ⟨b, _, none⟩) h2).trans k0, (hb.cell (p := ⟨b, _, none⟩) h2).trans k1, (hb.cell (p := ⟨b, _, none⟩) h2).trans k2⟩
theorem PhasAt.alloc (h : PhasAt w lo A n F) (x : Obj) : PhasAt (w.alloc x) lo A n F := h.below ((Below.refl _ _).alloc (Nat.le_refl _) _)
theorem PhasAt.drewN (h : PhasAt w lo A n F) (m : Nat) : PhasAt (w.drewN m) lo A n F := h
theorem PhasAt.weak {lo' : Nat} (h : PhasAt w lo A n F) (hl : lo' ≤ lo) : PhasAt w lo' A n F := fun i hi => by
  obtain ⟨b, o, e, h1, h2⟩ := h i hi
  exact ⟨b, o, e, Nat.le_trans hl h1, h2⟩
theorem PhasAt.congr {G : Nat → Pha} (h : PhasAt w lo A n F) (e : ∀ i, i < n → F i = G i) : PhasAt w lo A n G := fun i hi => by
  rw [← e i hi]; exact h i hi
theorem PhasAt.fewer {m : Nat} (h : PhasAt w lo A n F) (hm : m ≤ n) : PhasAt w lo A m F := fun i hi => h i (Nat.lt_of_lt_of_le hi hm)
theorem PhasAt.one {b : Nat} {x : Pha} {t : TypeId} (h : Box w b t #[.int .i64 x.re, .int .i64 x.im, .int .i64 x.den]) : PhasAt w 0 (some ⟨b, 0, none⟩) 1 (fun _ => x) := fun i hi => by
  obtain rfl : i = 0 := by omega
  exact ⟨b, 0, rfl, Nat.zero_le _, h.lt, h.at_ 0, h.at_ 1, h.at_ 2⟩
end
def phaVals (n : Nat) (F : Nat → Pha) : List Value := (List.range (n * 3)).map fun j => Value.int .i64 ((F (j / 3)).part (j % 3))
theorem phaVals_len (n : Nat) (F : Nat → Pha) : (phaVals n F).length = n * 3 := by simp [phaVals]
theorem phaVals_get (n : Nat) (F : Nat → Pha) (j : Nat) : (phaVals n F)[j]? = if j < n * 3 then some (.int .i64 ((F (j / 3)).part (j % 3))) else none := by
  unfold phaVals
  by_cases h : j < n * 3
  · rw [if_pos h]; simp [h]
  · rw [if_neg h, List.getElem?_eq_none (by simp; omega)]
theorem phaVals_congr {n : Nat} {F G : Nat → Pha} (h : ∀ j, j < n → F j = G j) : phaVals n F = phaVals n G := by
  unfold phaVals
  exact List.map_congr_left fun j hj => by
    have := List.mem_range.1 hj
    rw [h (j / 3) (by omega)]
def setPha (F : Nat → Pha) (k : Nat) (x : Pha) (j : Nat) : Pha := if j = k then x else F j
def OwnPhas (w : World) (base : Nat) (v : Value) (n : Nat) (F : Nat → Pha) : Prop := w.ownsRow base 63 3 v n (phaVals n F)
theorem OwnPhas.congr {w : World} {base n : Nat} {v : Value} {F G : Nat → Pha} (h : OwnPhas w base v n F) (e : ∀ j, j < n → F j = G j) : OwnPhas w base v n G := by
  unfold OwnPhas at h ⊢
  rwa [← phaVals_congr e]
theorem OwnPhas.drew {w : World} {base n : Nat} {v : Value} {F : Nat → Pha} (h : OwnPhas w base v n F) : OwnPhas w.drew base v n F := h
theorem OwnPhas.drewN {w : World} {base n : Nat} {v : Value} {F : Nat → Pha} (h : OwnPhas w base v n F) (q : Nat) : OwnPhas (w.drewN q) base v n F := h
theorem OwnPhas.alloc {w : World} {base n : Nat} {v : Value} {F : Nat → Pha} (h : OwnPhas w base v n F) (o : Obj) : OwnPhas (w.alloc o) base v n F := World.ownsRow.alloc h o
theorem OwnPhas.below {w w' : World} {base n : Nat} {v : Value} {F : Nat → Pha} (h : OwnPhas w base v n F) (hb : Below w.heap.size w w') : OwnPhas w' base v n F :=
  World.ownsRow.kept h (row := none) ⟨hb.os, hb.tape, hb.output, hb.size, fun k hk _ => hb.block k hk⟩ (by cases v.ownBlock <;> simp)
theorem OwnPhas.weak {w : World} {base base' n : Nat} {v : Value} {F : Nat → Pha} (h : OwnPhas w base v n F) (hb : base' ≤ base) : OwnPhas w base' v n F :=
  ⟨h.1, h.2.elim Or.inl (fun ⟨g, cap, cur, hv, hg, r⟩ => Or.inr ⟨g, cap, cur, hv, Nat.le_trans hb hg, r⟩)⟩
theorem OwnPhas.lt {w : World} {base n g c : Nat} {F : Nat → Pha} (h : OwnPhas w base (.slice (some ⟨g, 0, none⟩) n c) n F) : base ≤ g ∧ g < w.heap.size := World.ownsRow.lt h g rfl
theorem OwnPhas.part {w : World} {base n g c : Nat} {F : Nat → Pha} (h : OwnPhas w base (.slice (some ⟨g, 0, none⟩) n c) n F) {k i : Nat} (hk : k < n) (hi : i < 3) : w.cell? ⟨g, k * 3 + i, none⟩ = some (.int .i64 ((F k).part i)) := by
  rw [World.ownsRow.cellAt h (k * 3 + i) (by omega), phaVals_get, if_pos (by omega), show (k * 3 + i) / 3 = k by omega, show (k * 3 + i) % 3 = i by omega]
theorem OwnPhas.cells {w : World} {base n g c : Nat} {F : Nat → Pha} (h : OwnPhas w base (.slice (some ⟨g, 0, none⟩) n c) n F) {k : Nat} (hk : k < n) :
    w.cell? ⟨g, k * 3, none⟩ = some (.int .i64 (F k).re) ∧ w.cell? ⟨g, k * 3 + 1, none⟩ = some (.int .i64 (F k).im) ∧ w.cell? ⟨g, k * 3 + 2, none⟩ = some (.int .i64 (F k).den) :=
  ⟨h.part hk (show 0 < 3 by decide), h.part hk (show 1 < 3 by decide), h.part hk (show 2 < 3 by decide)⟩
theorem OwnPhas.frozen {w : World} {base n g c : Nat} {F : Nat → Pha} (h : OwnPhas w base (.slice (some ⟨g, 0, none⟩) n c) n F) (k : Nat) : w.frozen? ⟨g, k, none⟩ = false := World.ownsRow.frozenAt h k
theorem OwnPhas.nums {w : World} {base n c : Nat} {A : Option Addr} {F : Nat → Pha} (h : OwnPhas w base (.slice A n c) n F) : PhasAt w base A n F := fun i hi => by
  rcases h.2 with ⟨e, hx⟩ | ⟨g, cap, cur, e, hb, hg, hnc, hm, hsz, htake⟩
  · omega
  · injection e with e1 e2 e3
    subst e1
    have h' : OwnPhas w base (.slice (some ⟨g, 0, none⟩) n c) n F := h
    obtain ⟨k0, k1, k2⟩ := h'.cells hi
    exact ⟨g, 0, rfl, hb, (Array.getElem?_eq_some_iff.1 hg).1, by rwa [Nat.zero_add], by rwa [Nat.zero_add], by rwa [Nat.zero_add]⟩
theorem phaInfo : (Try.prog.info? 63).map (fun i => (i.zero, i.size, i.bytes)) = some (some (.agg #[.int .i64 0, .int .i64 0, .int .i64 0]), 3, 24) := by kernel_rfl
def catPha (n : Nat) (F G : Nat → Pha) : Nat → Pha := fun j => if j < n then F j else G (j - n)
theorem phaVals_cat (n m : Nat) (F G : Nat → Pha) : phaVals n F ++ phaVals m G = phaVals (n + m) (catPha n F G) := by
  apply List.ext_getElem?
  intro j
  rw [List.getElem?_append, phaVals_len, phaVals_get, phaVals_get, phaVals_get]
  unfold catPha
  by_cases h1 : j < n * 3
  · rw [if_pos h1, if_pos h1, if_pos (by omega), if_pos (by omega)]
  · rw [if_neg h1]
    by_cases h2 : j - n * 3 < m * 3
    · rw [if_pos h2, if_pos (by omega), if_neg (by omega), show (j - n * 3) / 3 = j / 3 - n by omega, show (j - n * 3) % 3 = j % 3 by omega]
    · rw [if_neg h2, if_neg (by omega)]
theorem ownPhas_nil (w : World) (base : Nat) (F : Nat → Pha) : OwnPhas w base (.slice none 0 0) 0 F := World.ownsRow_nil _ _ _ _
theorem OwnPhas.empty (w : World) (g : Nat) (hg : g = w.heap.size) (F : Nat → Pha) : OwnPhas (w.alloc (.cells #[] 63)) w.heap.size (.slice (some ⟨g, 0, none⟩) 0 0) 0 F := by
  subst hg
  exact World.ownsRow_made w #[] 0 (Nat.le_refl _) (by decide) rfl
theorem ownPhas_form {w : World} {base n : Nat} {v : Value} {F : Nat → Pha} (h : OwnPhas w base v n F) : ∃ A c, v = .slice A n c ∧ n ≤ c ∧ PhasAt w base A n F := by
  rcases h.2 with ⟨rfl, hx⟩ | ⟨g, cap, cur, rfl, hb, hg, hnc, hm, hsz, htake⟩
  · subst hx
    exact ⟨_, _, rfl, Nat.le_refl _, PhasAt.nil_⟩
  · exact ⟨_, _, rfl, hnc, OwnPhas.nums h⟩
theorem PhasAt.part {w : World} {lo n : Nat} {A : Option Addr} {F : Nat → Pha} (h : PhasAt w lo A n F) {j : Nat} (hj : j < n * 3) : ∃ b o, A = some ⟨b, o, none⟩ ∧ w.cell? ⟨b, o + j, none⟩ = some (.int .i64 ((F (j / 3)).part (j % 3))) := by
  obtain ⟨b, o, rfl, -, -, h0, h1, h2⟩ := h (j / 3) (by omega)
  refine ⟨b, o, rfl, ?_⟩
  have hlt := Nat.mod_lt j (show 0 < 3 by decide)
  have hd := Nat.div_add_mod j 3
  obtain e | e | e : j % 3 = 0 ∨ j % 3 = 1 ∨ j % 3 = 2 := by omega
  · rw [e, show o + j = o + j / 3 * 3 by omega]; exact h0
  · rw [e, show o + j = o + j / 3 * 3 + 1 by omega]; exact h1
  · rw [e, show o + j = o + j / 3 * 3 + 2 by omega]; exact h2
set_option maxRecDepth 100000 in
theorem run_append_Phas (w : World) (ty : TypeId) (base lo : Nat) (v : Value) (n : Nat) (F : Nat → Pha) (hown : OwnPhas w base v n F)
    (A : Option Addr) (m c : Nat) (G : Nat → Pha) (hr : PhasAt w lo A m G) (hnm : n + m ≤ 100000000) (hbase : base ≤ w.heap.size) :
    ∃ v' w', (Builtin.append_ #[51, 51] ty #[v, .slice A m c]).run Try.prog w = .ok v' w' ∧ OwnPhas w' base v' (n + m) (catPha n F G) ∧ Below base w w' ∧ w.grownBy w' v.ownBlock ∧ (v'.ownBlock = v.ownBlock ∨ v'.ownBlock = some w.heap.size) := by
  obtain ⟨i0, hi, hz0, hz1, hz2⟩ := info_parts phaInfo
  cases A with
  | none =>
    have hm : m = 0 := by
      rcases Nat.eq_zero_or_pos m with h0 | h0
      · exact h0
      · obtain ⟨b, o, e, -⟩ := hr 0 h0
        cases e
    subst hm
    have hrun : (Builtin.append_ #[51, 51] ty #[v, .slice none 0 c]).run Try.prog w = .ok v w := by
      rcases hown.2 with ⟨rfl, -⟩ | ⟨g, cap, cur, rfl, -, -, hnc, -⟩
      · simp [Builtin.append_, run_underlying Try.underlying51, sizeOf, typeInfo, hi, Builtin.lenOf, Builtin.firstCells]
      · simp [Builtin.append_, run_underlying Try.underlying51, sizeOf, typeInfo, hi, Builtin.lenOf, Builtin.firstCells, hnc, storeCells]
    exact ⟨v, w, hrun, OwnPhas.congr (F := F) hown fun j hj => by unfold catPha; rw [if_pos (show j < n by omega)], Below.refl _ _, ⟨rfl, rfl, rfl, Nat.le_refl _, fun _ _ _ => rfl⟩, .inl rfl⟩
  | some ad =>
    obtain ⟨v', w', hrun, hown', hg, -, hob⟩ := run_append_own_at (P := Try.prog) w base 51 ty 63 i0 (.agg #[.int .i64 0, .int .i64 0, .int .i64 0]) 3 24 Try.underlying51 hi hz0 hz1 hz2 rfl (by decide) v n _ hown ad m c (phaVals m G) (by rw [phaVals_len])
      (fun j u hu => by
        rw [phaVals_get] at hu
        split at hu
        · rename_i hj
          obtain ⟨b, o, e, hc⟩ := hr.part hj
          injection e with e
          subst e
          injection hu with hu
          subst hu
          rw [Addr.add_lit]
          exact hc
        · cases hu)
      (fun u hu => by
        obtain ⟨j, -, rfl⟩ := List.mem_map.1 hu
        rfl) (by unfold maxLen; omega) (by omega) hbase
    rw [phaVals_cat] at hown'
    exact ⟨v', w', hrun, hown', (Below.refl _ _).grown hg hbase (fun k hk => (World.ownsRow.lt hown k hk).1), hg, hob⟩
theorem wp_append_Phas {o : Oper} {a : Act} {K : Act → World → Prop} {Q : Exit → Act → World → Prop} (w : World) (s x : Operand)
    (ho : o.op = .call { callee := .builtin .append, args := #[s, x], argTypes := #[51, 51] })
    (base lo : Nat) (v : Value) (n : Nat) (F : Nat → Pha) (hs : a.eval s = v) (hown : OwnPhas w base v n F)
    (A : Option Addr) (m c : Nat) (G : Nat → Pha) (hx : a.eval x = .slice A m c) (hr : PhasAt w lo A m G) (hnm : n + m ≤ 100000000) (hbase : base ≤ w.heap.size)
    (h : ∀ v' w', OwnPhas w' base v' (n + m) (catPha n F G) → Below base w w' → w.grownBy w' v.ownBlock → (v'.ownBlock = v.ownBlock ∨ v'.ownBlock = some w.heap.size) → K (a.put o.dst v') w') : o.wp Try.prog a w K Q := by
  obtain ⟨v', w', hrun, h1, h2, h3, h4⟩ := run_append_Phas w o.type base lo v n F hown A m c G hr hnm hbase
  unfold Oper.wp execOp
  simp only [ho, resolve, invoke, builtin, Sem.run_bind, Sem.run_pure, Result.andThen_ok, List.map_toArray, List.map_cons, List.map_nil, hs, hx, hrun]
  exact h v' w' h1 h2 h3 h4
theorem wpList_append_Phas {ops : Array Oper} {rest : List Oper} {o : Oper} {a : Act} {Q : Exit → Act → World → Prop} (w : World) (hgd : o.guard = none) (s x : Operand)
    (ho : o.op = .call { callee := .builtin .append, args := #[s, x], argTypes := #[51, 51] })
    (base lo : Nat) (v : Value) (n : Nat) (F : Nat → Pha) (hs : a.eval s = v) (hown : OwnPhas w base v n F)
    (A : Option Addr) (m c : Nat) (G : Nat → Pha) (hx : a.eval x = .slice A m c) (hr : PhasAt w lo A m G) (hnm : n + m ≤ 100000000) (hbase : base ≤ w.heap.size)
    (h : ∀ v' w', OwnPhas w' base v' (n + m) (catPha n F G) → Below base w w' → wpList Try.prog ops Q rest (a.put o.dst v') w') : wpList Try.prog ops Q (o :: rest) a w :=
  wpList_plain hgd fun _ hK => wp_append_Phas w s x ho base lo v n F hs hown A m c G hx hr hnm hbase fun v' w' h1 h2 _ _ => hK _ _ (h v' w' h1 h2)
theorem stepG_append_Phas {ops : Array Oper} {o : Oper} {a : Act} {K : Act → World → Prop} {Q : Exit → Act → World → Prop} {E : Prop} (w : World) (hgd : o.guard = none) (s x : Operand)
    (ho : o.op = .call { callee := .builtin .append, args := #[s, x], argTypes := #[51, 51] })
    (base lo : Nat) (v : Value) (n : Nat) (F : Nat → Pha) (hs : a.eval s = v) (hown : OwnPhas w base v n F)
    (A : Option Addr) (m c : Nat) (G : Nat → Pha) (hx : a.eval x = .slice A m c) (hr : PhasAt w lo A m G) (hnm : n + m ≤ 100000000) (hbase : base ≤ w.heap.size)
    (h : ∀ v' w', OwnPhas w' base v' (n + m) (catPha n F G) → Below base w w' → w.grownBy w' v.ownBlock → (v'.ownBlock = v.ownBlock ∨ v'.ownBlock = some w.heap.size) → K (a.put o.dst v') w') :
    if Region.wanted o (yielded ops a.tmps) = true then Oper.wp Try.prog o a w K Q else E := by
  have hw : Region.wanted o (yielded ops a.tmps) = true := by simp [Region.wanted, hgd]
  rw [if_pos hw]
  exact wp_append_Phas w s x ho base lo v n F hs hown A m c G hx hr hnm hbase h
theorem step_append_Phas {ops : Array Oper} {o : Oper} {a : Act} {K : Act → World → Prop} {Q : Exit → Act → World → Prop} {E : Prop} (w : World) (hgd : o.guard = none) (s x : Operand)
    (ho : o.op = .call { callee := .builtin .append, args := #[s, x], argTypes := #[51, 51] })
    (base lo : Nat) (v : Value) (n : Nat) (F : Nat → Pha) (hs : a.eval s = v) (hown : OwnPhas w base v n F)
    (A : Option Addr) (m c : Nat) (G : Nat → Pha) (hx : a.eval x = .slice A m c) (hr : PhasAt w lo A m G) (hnm : n + m ≤ 100000000) (hbase : base ≤ w.heap.size)
    (h : ∀ v' w', OwnPhas w' base v' (n + m) (catPha n F G) → Below base w w' → K (a.put o.dst v') w') :
    if Region.wanted o (yielded ops a.tmps) = true then Oper.wp Try.prog o a w K Q else E := by
  have hw : Region.wanted o (yielded ops a.tmps) = true := by simp [Region.wanted, hgd]
  rw [if_pos hw]
  exact wp_append_Phas w s x ho base lo v n F hs hown A m c G hx hr hnm hbase fun v' w' h1 h2 _ _ => h v' w' h1 h2
end Go.Proofs.Ytmcgmlhpbpjmgaa
/- commonDivisor and between of the code. -/
namespace Go.Proofs.Ytmcgmlhpbpjmgaa
open Go.RowKit
theorem gcd_step (p q : Int) : Int.gcd q (p.tmod q) = Int.gcd p q := by
  show Nat.gcd q.natAbs (p.tmod q).natAbs = Nat.gcd p.natAbs q.natAbs
  rw [Int.natAbs_tmod, Nat.gcd_comm q.natAbs (p.natAbs % q.natAbs), ← Nat.gcd_rec, Nat.gcd_comm]
theorem gcd_size (p : Int) : max p (-p) = ((Int.gcd p 0 : Nat) : Int) := by
  unfold Int.gcd
  simp only [Int.natAbs_zero, Nat.gcd_zero_right]
  omega
theorem tmod_size (p q : Int) (h : q ≠ 0) : (p.tmod q).natAbs < q.natAbs ∧ (p.tmod q).natAbs ≤ p.natAbs := by
  rw [Int.natAbs_tmod]
  exact ⟨Nat.mod_lt _ (by omega), Nat.mod_le _ _⟩
theorem tdiv_size (p q : Int) : (p.tdiv q).natAbs ≤ p.natAbs := by
  rw [Int.natAbs_tdiv]
  exact Nat.div_le_self _ _
theorem gcd_le {p q M : Int} (hp : -M ≤ p ∧ p ≤ M) (hq : -M ≤ q ∧ q ≤ M) : 0 ≤ ((Int.gcd p q : Nat) : Int) ∧ ((Int.gcd p q : Nat) : Int) ≤ M := by
  refine ⟨Int.natCast_nonneg _, ?_⟩
  unfold Int.gcd
  rcases Nat.eq_zero_or_pos p.natAbs with h | h
  · rw [h, Nat.gcd_zero_left]
    omega
  · have := Nat.gcd_le_left q.natAbs h
    omega
theorem gcd_pos {p q : Int} (hp : 0 < p) : 0 < ((Int.gcd p q : Nat) : Int) ∧ ((Int.gcd p q : Nat) : Int) ≤ p := by
  unfold Int.gcd
  have h : 0 < p.natAbs := by omega
  have h1 := Nat.gcd_pos_of_pos_left q.natAbs h
  have h2 := Nat.gcd_le_left q.natAbs h
  omega
set_option maxHeartbeats 1000000 in
theorem commonDivisor_any (a b M : Int) (w : World) (ha : -M ≤ a ∧ a ≤ M) (hb : -M ≤ b ∧ b ≤ M) (hM : M ≤ 9000000000000000000) :
    Calls Try.prog 93 #[.int .i64 a, .int .i64 b] w fun e w' => e = .returned (.int .i64 ((Int.gcd a b : Nat) : Int)) ∧ Below w.heap.size w w' := by
  have HH := hide (show (Int.gcd a b = Int.gcd a b) ∧ (-M ≤ a ∧ a ≤ M) ∧ (-M ≤ b ∧ b ≤ M) from ⟨rfl, ha, hb⟩)
  obtain ⟨g, hg⟩ : ∃ g, g = Int.gcd a b := ⟨_, rfl⟩
  rw [← hg]
  have HG := hide hg
  clear ha hb hg
  go_enter Try.func93, Try.ntmps93
  go_wp2_with fail
  go_loopw [0, 1] (fun x y wr => ∃ p q : Int, x = .int .i64 p ∧ y = .int .i64 q ∧ Hid (Int.gcd p q = g ∧ (-M ≤ p ∧ p ≤ M) ∧ (-M ≤ q ∧ q ≤ M)) ∧ Below w.heap.size w wr) (fun _ y _ => (Go.RowKit.intOf y).natAbs)
  case atStart => exact ⟨a, b, rfl, rfl, hide ⟨HG.out.symm, HH.out.2⟩, Below.refl _ _⟩
  case round =>
    clear HH HG
    obtain ⟨p, q, rfl, rfl, HP, hB⟩ := hrel
    obtain ⟨wA, rfl⟩ : ∃ x : World, x = wr := ⟨_, rfl⟩
    have HB := hide hB
    clear hB
    by_cases hq : q = 0
    · subst hq
      have HE := hide (show max p (-p) = ((g : Nat) : Int) by rw [gcd_size, HP.out.1])
      have q1 : IntKind.i64.wrap (-p) = -p := IntWalk.i64_in _ (by have := HP.out.2.1; omega)
      clear HP
      go_wp2_with fail
      go_ret
      exact ⟨by rw [← HE.out]; rfl, HB.out⟩
    · have t0 : (q != 0) = true := by simpa using hq
      obtain ⟨h1, h2⟩ := tmod_size p q hq
      have q1 : IntKind.i64.wrap (p.tmod q) = p.tmod q := IntWalk.i64_in _ (by have := HP.out.2.1; omega)
      have HN := hide (show Int.gcd q (p.tmod q) = g ∧ (-M ≤ q ∧ q ≤ M) ∧ (-M ≤ p.tmod q ∧ p.tmod q ≤ M) from ⟨(gcd_step p q).trans HP.out.1, HP.out.2.2, by have := HP.out.2.1; omega⟩)
      have HL := hide h1
      clear HP h1 h2
      go_wp2_with fail
      go_quiet (fail)
      go_wp2_with fail
      go_roundw
      case rel => exact ⟨q, p.tmod q, rfl, rfl, HN, Go.below_drewN HB.out _⟩
      case measure => simp only [Go.RowKit.intOf]; exact HL.out
/-- The number k of s steps from x to y, s times. -/
def btw (x y k s : Int) : Int := x * (s - k) + y * k
def betD (a b : Gau) (k s : Int) : Nat := Int.gcd s ((Int.gcd (btw a.re b.re k s) (btw a.im b.im k s) : Nat) : Int)
def betP (a b : Gau) (k s : Int) : Pha := ⟨(btw a.re b.re k s).tdiv (betD a b k s), (btw a.im b.im k s).tdiv (betD a b k s), s.tdiv (betD a b k s)⟩
theorem btw_parts {x y k s : Int} (hx : -10000 ≤ x ∧ x ≤ 10000) (hy : -10000 ≤ y ∧ y ≤ 10000) (hk : 0 ≤ k ∧ k ≤ s) (hs : s ≤ 20) : (-200000 ≤ x * (s - k) ∧ x * (s - k) ≤ 200000) ∧ (-200000 ≤ y * k ∧ y * k ≤ 200000) := by
  have h1 := mul_within (M := 10000) (N := 20) hx (show -20 ≤ s - k ∧ s - k ≤ 20 by omega)
  have h2 := mul_within (M := 10000) (N := 20) hy (show -20 ≤ k ∧ k ≤ 20 by omega)
  omega
theorem Box.put3 {w : World} {b : Nat} {t : TypeId} {p0 p1 p2 : Value} (h : Box w b t #[p0, p1, p2]) (u0 u1 u2 : Value) : Box (((w.setCell ⟨b, 0, none⟩ u0).setCell ⟨b, 1, none⟩ u1).setCell ⟨b, 2, none⟩ u2) b t #[u0, u1, u2] := by
  have := ((h.set_ 0 u0).set_ 1 u1).set_ 2 u2
  simpa using this
theorem Box.cells3 {w : World} {b : Nat} {t : TypeId} {p0 p1 p2 : Value} (h : Box w b t #[p0, p1, p2]) :
    w.cell? ⟨b, 0, none⟩ = some p0 ∧ w.cell? ⟨b, 1, none⟩ = some p1 ∧ w.cell? ⟨b, 2, none⟩ = some p2 ∧ w.frozen? ⟨b, 0, none⟩ = false ∧ w.frozen? ⟨b, 1, none⟩ = false ∧ w.frozen? ⟨b, 2, none⟩ = false ∧ b < w.heap.size :=
  ⟨h.at_ 0, h.at_ 1, h.at_ 2, h.free 0, h.free 1, h.free 2, h.lt⟩
set_option maxHeartbeats 2000000 in
set_option maxRecDepth 100000 in
theorem between_any (a b : Gau) (k s : Int) (w : World) (ha : a.Within 10000) (hb : b.Within 10000) (hk : 0 ≤ k ∧ k ≤ s) (hs : 1 ≤ s ∧ s ≤ 20) :
    Calls Try.prog 67 #[.agg #[.int .i64 a.re, .int .i64 a.im], .agg #[.int .i64 b.re, .int .i64 b.im], .int .i64 k, .int .i64 s] w fun e w' => e = .returned (.agg #[.int .i64 (betP a b k s).re, .int .i64 (betP a b k s).im, .int .i64 (betP a b k s).den]) ∧ Below w.heap.size w w' := by
  obtain ⟨h1, h2⟩ := btw_parts ha.re hb.re hk hs.2
  obtain ⟨h3, h4⟩ := btw_parts ha.im hb.im hk hs.2
  obtain ⟨R, hR⟩ : ∃ z, z = a.re * (s - k) + b.re * k := ⟨_, rfl⟩
  obtain ⟨I, hI⟩ : ∃ z, z = a.im * (s - k) + b.im * k := ⟨_, rfl⟩
  have hRb : -400000 ≤ R ∧ R ≤ 400000 := by rw [hR]; omega
  have hIb : -400000 ≤ I ∧ I ≤ 400000 := by rw [hI]; omega
  have hg := gcd_le hRb hIb
  obtain ⟨g, hg'⟩ : ∃ g, g = Int.gcd R I := ⟨_, rfl⟩
  obtain ⟨D, hD⟩ : ∃ D, D = Int.gcd s ((g : Nat) : Int) := ⟨_, rfl⟩
  have hDb := gcd_pos (q := ((g : Nat) : Int)) (show 0 < s by omega)
  have HC1 := hide (fun W => commonDivisor_any R I 400000 W hRb hIb (by decide))
  rw [← hg'] at HC1 hg
  have HC2 := hide (fun W => commonDivisor_any s ((g : Nat) : Int) 400000 W (by omega) (by omega) (by decide))
  rw [← hD] at HC2 hDb
  have e1 : betD a b k s = D := by unfold betD btw; rw [← hR, ← hI, ← hg', ← hD]
  have HV := hide (show betP a b k s = ⟨R.tdiv D, I.tdiv D, s.tdiv D⟩ by unfold betP btw; rw [e1, ← hR, ← hI])
  rw [HV.out]
  have q1 : IntKind.i64.wrap (s - k) = s - k := IntWalk.i64_in _ (by omega)
  have q2 : IntKind.i64.wrap (a.re * (s - k)) = a.re * (s - k) := IntWalk.i64_in _ (by omega)
  have q3 : IntKind.i64.wrap (b.re * k) = b.re * k := IntWalk.i64_in _ (by omega)
  have q4 : IntKind.i64.wrap (a.re * (s - k) + b.re * k) = R := by rw [hR]; exact IntWalk.i64_in _ (by omega)
  have q5 : IntKind.i64.wrap (a.im * (s - k)) = a.im * (s - k) := IntWalk.i64_in _ (by omega)
  have q6 : IntKind.i64.wrap (b.im * k) = b.im * k := IntWalk.i64_in _ (by omega)
  have q7 : IntKind.i64.wrap (a.im * (s - k) + b.im * k) = I := by rw [hI]; exact IntWalk.i64_in _ (by omega)
  have HQ := hide (show IntKind.i64.wrap (R.tdiv D) = R.tdiv D ∧ IntKind.i64.wrap (I.tdiv D) = I.tdiv D ∧ IntKind.i64.wrap (s.tdiv D) = s.tdiv D ∧ ¬ ((D : Nat) : Int) = 0 ∧ ¬ D = 0 from
    ⟨IntWalk.i64_in _ (by have := tdiv_size R D; omega), IntWalk.i64_in _ (by have := tdiv_size I D; omega), IntWalk.i64_in _ (by have := tdiv_size s D; omega), by omega, by omega⟩)
  clear h1 h2 h3 h4 hRb hIb hg hDb e1 HV ha hb hk hs hg' hD
  clear hR hI
  go_enter Try.func67, Try.ntmps67
  go_upto_region 3 with fail
  obtain ⟨W, hW⟩ : ∃ y : World, y = ((w.alloc (.cells #[.int .i64 a.re, .int .i64 a.im] 61)).alloc (.cells #[.int .i64 b.re, .int .i64 b.im] 61)).alloc (.cells #[.int .i64 0, .int .i64 0, .int .i64 0] 63) := ⟨_, rfl⟩
  rw [← hW]
  obtain ⟨g8, hg8⟩ : ∃ g, g = w.heap.size + 1 + 1 := ⟨_, rfl⟩
  have b8 : Box W g8 63 #[.int .i64 0, .int .i64 0, .int .i64 0] := by rw [hW]; exact Box.made (by simp [hg8])
  have hB : Below w.heap.size w W := by rw [hW]; (repeat (first | (with_reducible exact Below.refl _ _) | (with_reducible refine Go.below_drewN ?_ _) | (with_reducible refine Below.drew ?_) | (with_reducible refine Below.alloc ?_ (by first | exact Nat.le_refl _ | (simp; done) | (simp; omega) | omega) _) | (with_reducible refine Below.setCell ?_ (by first | exact Nat.le_refl _ | (simp; done) | (simp; omega) | omega) _)))
  have hgw : w.heap.size ≤ g8 := by omega
  rw [← hg8]
  clear hW hg8 q1 q2 q3 q4 q5 q6 q7
  go_wp2_with fail
  refine (HC1.out _).mono ?_
  rintro e w1 ⟨rfl, hb1⟩
  have b81 := b8.below hb1
  have hB1 := hB.trans (hb1.mono hB.size)
  clear hb1 b8 hB
  go_wp2_with fail
  refine (HC2.out _).mono ?_
  rintro e w2 ⟨rfl, hb2⟩
  have b82 := b81.below hb2
  have hB2 := hB1.trans (hb2.mono hB1.size)
  clear hb2 b81 hB1
  obtain ⟨q1, q2, q3, qz, qn⟩ := HQ.out
  obtain ⟨z0, z1, z2, f0, f1, f2, hl⟩ := b82.cells3
  go_upto_region 4 with fail
  refine wp_region_held_drew (S := fun _ => True) (by kernel_rfl) trivial (fun hHeld => ?_)
  refine wpAnyH_take (i := 0) (oi := ⟨some 39, _, _, _, _, _⟩) (v := ?_) rfl (by kernel_rfl) (by kernel_rfl) (by kernel_rfl) (fun _ _ _ h => h) (Or.inl ⟨by rfl, ?_⟩) (by assumption) ?_
  rotate_left
  · (intro w' hSw; (try dsimp only at hSw); go_simp <;> (with_reducible rfl))
  try simp only [Act.put, List.setIfInBounds_toArray, List.set_cons_zero, List.set_cons_succ]
  refine wpAnyH_take (i := 1) (oi := ⟨some 40, _, _, _, _, _⟩) (v := ?_) rfl (by kernel_rfl) (by kernel_rfl) (by kernel_rfl) (fun _ _ _ h => h) (Or.inl ⟨by rfl, ?_⟩) (by assumption) ?_
  rotate_left
  · (intro w' hSw; (try dsimp only at hSw); go_simp <;> (with_reducible rfl))
  try simp only [Act.put, List.setIfInBounds_toArray, List.set_cons_zero, List.set_cons_succ]
  refine wpAnyH_take (i := 2) (oi := ⟨some 41, _, _, _, _, _⟩) (v := ?_) rfl (by kernel_rfl) (by kernel_rfl) (by kernel_rfl) (fun _ _ _ h => h) (Or.inl ⟨by rfl, ?_⟩) (by assumption) ?_
  rotate_left
  · (intro w' hSw; (try dsimp only at hSw); go_simp <;> (with_reducible rfl))
  try simp only [Act.put, List.setIfInBounds_toArray, List.set_cons_zero, List.set_cons_succ]
  refine wpAnyH_take (i := 3) (oi := ⟨some 42, _, _, _, _, _⟩) (v := ?_) rfl (by kernel_rfl) (by kernel_rfl) (by kernel_rfl) (fun _ _ _ h => h) (Or.inl ⟨by rfl, ?_⟩) (by assumption) ?_
  rotate_left
  · (intro w' hSw; (try dsimp only at hSw); go_simp <;> (with_reducible rfl))
  try simp only [Act.put, List.setIfInBounds_toArray, List.set_cons_zero, List.set_cons_succ]
  refine wpAnyH_take (i := 4) (oi := ⟨some 43, _, _, _, _, _⟩) (v := ?_) rfl (by kernel_rfl) (by kernel_rfl) (by kernel_rfl) (fun _ _ _ h => h) (Or.inl ⟨by rfl, ?_⟩) (by assumption) ?_
  rotate_left
  · (intro w' hSw; (try dsimp only at hSw); go_simp <;> (with_reducible rfl))
  try simp only [Act.put, List.setIfInBounds_toArray, List.set_cons_zero, List.set_cons_succ]
  refine wpAnyH_take (i := 5) (oi := ⟨some 44, _, _, _, _, _⟩) (v := ?_) rfl (by kernel_rfl) (by kernel_rfl) (by kernel_rfl) (fun _ _ _ h => h) (Or.inl ⟨by rfl, ?_⟩) (by assumption) ?_
  rotate_left
  · (intro w' hSw; (try dsimp only at hSw); go_simp <;> (with_reducible rfl))
  try simp only [Act.put, List.setIfInBounds_toArray, List.set_cons_zero, List.set_cons_succ]
  refine wpAnyH_take (i := 6) (oi := ⟨some 45, _, _, _, _, _⟩) (v := ?_) rfl (by kernel_rfl) (by kernel_rfl) (by kernel_rfl) (fun _ _ _ h => h) (Or.inl ⟨by rfl, ?_⟩) (by assumption) ?_
  rotate_left
  · (intro w' hSw; (try dsimp only at hSw); go_simp <;> (with_reducible rfl))
  try simp only [Act.put, List.setIfInBounds_toArray, List.set_cons_zero, List.set_cons_succ]
  refine wpAnyH_take (i := 7) (oi := ⟨some 46, _, _, _, _, _⟩) (v := ?_) rfl (by kernel_rfl) (by kernel_rfl) (by kernel_rfl) (fun _ _ _ h => h) (Or.inl ⟨by rfl, ?_⟩) (by assumption) ?_
  rotate_left
  · (intro w' hSw; (try dsimp only at hSw); go_simp <;> (with_reducible rfl))
  try simp only [Act.put, List.setIfInBounds_toArray, List.set_cons_zero, List.set_cons_succ]
  refine wpAnyH_take (i := 8) (oi := ⟨some 47, _, _, _, _, _⟩) (v := ?_) rfl (by kernel_rfl) (by kernel_rfl) (by kernel_rfl) (fun _ _ _ h => h) (Or.inl ⟨by rfl, ?_⟩) (by assumption) ?_
  rotate_left
  · (intro w' hSw; (try dsimp only at hSw); go_simp <;> (with_reducible rfl))
  try simp only [Act.put, List.setIfInBounds_toArray, List.set_cons_zero, List.set_cons_succ]
  refine wpAnyH_take (i := 9) (oi := ⟨some 48, _, _, _, _, _⟩) (v := ?_) rfl (by kernel_rfl) (by kernel_rfl) (by kernel_rfl) (fun _ _ _ h => h) (Or.inl ⟨by rfl, ?_⟩) (by assumption) ?_
  rotate_left
  · (intro w' hSw; (try dsimp only at hSw); go_simp <;> (with_reducible rfl))
  try simp only [Act.put, List.setIfInBounds_toArray, List.set_cons_zero, List.set_cons_succ]
  refine wpAnyH_ready (rs := [10]) (by kernel_rfl) (by simp) ?_
  refine AllReadyH.cons (o := ⟨none, _, _, _, _, _⟩) rfl (fun K' hK => ?_) AllReadyH.nil
  go_simp
  have HBB := hide (b82.put3 (.int .i64 (R.tdiv D)) (.int .i64 (I.tdiv D)) (.int .i64 (s.tdiv D)))
  have HBL := hide (((hB2.setCell (p := ⟨g8, 0, none⟩) hgw (.int .i64 (R.tdiv D))).setCell (p := ⟨g8, 1, none⟩) hgw (.int .i64 (I.tdiv D))).setCell (p := ⟨g8, 2, none⟩) hgw (.int .i64 (s.tdiv D)))
  refine hK.out _ _ trivial (fun hHeld => ?_)
  clear hK K'
  try simp only [Act.put, List.setIfInBounds_toArray, List.set_cons_zero, List.set_cons_succ]
  refine wpAnyH_done (by kernel_rfl) ?_ _
  go_wp2_with fail
  obtain ⟨y0, y1, y2, -⟩ := HBB.out.cells3
  refine bodyPost_ret (v := .agg #[.int .i64 (R.tdiv D), .int .i64 (I.tdiv D), .int .i64 (s.tdiv D)]) ?_ rfl ⟨rfl, HBL.out.drew⟩
  simp [results, Try.results67, go_sem, y0, y1, y2]
end Go.Proofs.Ytmcgmlhpbpjmgaa
/- Interpolated of the code. -/
namespace Go.Proofs.Ytmcgmlhpbpjmgaa
open Go.RowKit
theorem cellBy {W W' : World} {b o : Nat} {v : Value} (hb : Below W.heap.size W W') (h : W.cell? ⟨b, o, none⟩ = some v) : W'.cell? ⟨b, o, none⟩ = some v :=
  (hb.cell (p := ⟨b, o, none⟩) (World.block_lt_of_cell? W _ h)).trans h
/-- The value j behind the first estimate, at every s steps. -/
def interF (F : Nat → Gau) (s : Nat) (j : Nat) : Pha := betP (F (j / s)) (F (j / s + 1)) ((j % s : Nat) : Int) (s : Int)
theorem betP_zero (a b c : Gau) (s : Int) : betP a b 0 s = betP a c 0 s := by
  unfold betP betD btw
  simp only [Int.mul_zero, Int.add_zero, Int.sub_zero]
theorem interF_at (F : Nat → Gau) {s i k : Nat} (hk : k < s) : interF F s (i * s + k) = betP (F i) (F (i + 1)) (k : Int) (s : Int) := by
  unfold interF
  have h1 : (i * s + k) / s = i := by
    rw [Nat.mul_comm, Nat.mul_add_div (by omega), Nat.div_eq_of_lt hk, Nat.add_zero]
  have h2 : (i * s + k) % s = k := by
    rw [Nat.mul_comm, Nat.mul_add_mod, Nat.mod_eq_of_lt hk]
  rw [h1, h2]
theorem interF_last (F : Nat → Gau) {s i : Nat} (hs : 0 < s) : interF F s (i * s) = betP (F i) (F i) 0 (s : Int) := by
  have h := interF_at F (i := i) (s := s) (k := 0) hs
  rw [Nat.add_zero] at h
  rw [h]
  exact betP_zero _ _ _ _
/-- The error of values between estimates. -/
def interE (n : Nat) (F : Nat → Gau) (s : Int) : Int := firstE [unI (decide (0 < n)) 10, unI (decide ((n : Int) ≤ 40)) 8, gausE 10000 F n, unI (withinB s 1 20) 2]
theorem interE_zero {n : Nat} {F : Nat → Gau} {s : Int} (h : interE n F s = 0) : 0 < n ∧ n ≤ 40 ∧ gausE 10000 F n = 0 ∧ 1 ≤ s ∧ s ≤ 20 := by
  unfold interE at h
  obtain ⟨h1, h⟩ := firstE_nil h
  obtain ⟨h2, h⟩ := firstE_nil h
  obtain ⟨h3, h⟩ := firstE_nil h
  obtain ⟨h4, -⟩ := firstE_nil h
  have h1 := unI_zero (by decide) h1
  have h2 := unI_zero (by decide) h2
  have h4 := withinB_iff.1 (unI_zero (by decide) h4)
  simp at h1 h2
  exact ⟨by omega, by omega, h3, h4⟩
/-- What the call hands back. -/
def GotP (W : World) (V : Int) (v : Value) (m : Nat) (F : Nat → Pha) : Prop := (V = 0 ∧ ∃ X x, v = .slice X m x ∧ PhasAt W 0 X m F) ∨ (V ≠ 0 ∧ v = .slice none 0 0)
theorem GotP.below {W W' : World} {V : Int} {v : Value} {m : Nat} {F : Nat → Pha} (h : GotP W V v m F) (hb : Below W.heap.size W W') : GotP W' V v m F := by
  rcases h with ⟨h0, X, x, h1, h2⟩ | h
  · exact .inl ⟨h0, X, x, h1, h2.below hb⟩
  · exact .inr h
set_option maxHeartbeats 4000000 in
set_option maxRecDepth 100000 in
theorem Interpolated_any (A : Option Addr) (n c : Nat) (F : Nat → Gau) (s : Int) (w : World) (hn : n ≤ 100000) (hnc : n ≤ c) (hI : GausAt w 0 A n F) :
    Calls Try.prog 26 #[.slice A n c, .int .i64 s] w fun e w' => ∃ v, e = .returned (.tuple #[v, .int .i64 (interE n F s)]) ∧ GotP w' (interE n F s) v ((n - 1) * s.toNat + 1) (interF F s.toNat) ∧ Below w.heap.size w w' := by
  have HE := hide (show firstE [unI (decide (0 < n)) 10, unI (decide ((n : Int) ≤ 40)) 8, gausE 10000 F n, unI (withinB s 1 20) 2] = interE n F s from rfl)
  have HX := hide (entriesError_any A n c F w hn hI)
  have HI := hide hI
  have HZ := hide (interE_zero (n := n) (F := F) (s := s))
  clear hI
  generalize interE n F s = V at *
  have HGE := hide (gausE_within (M := 10000) (F := F) (n := n))
  obtain ⟨t, ht⟩ : ∃ z, z = gausE 10000 F n := ⟨_, rfl⟩
  rw [← ht] at HE HX HZ HGE
  clear ht
  go_enter Try.func26, Try.ntmps26
  go_wp2_with (go_at_call 43; refine (unless_any _ _ _).mono ?_; rintro e w' ⟨rfl, rfl⟩)
  refine HX.out.mono ?_
  rintro e w1 ⟨rfl, hb1⟩
  have HB1 := hide hb1
  clear hb1 HX
  go_wp2_with (first | (go_at_call 43; refine (unless_any _ _ _).mono ?_; rintro e w' ⟨rfl, rfl⟩) | (go_at_call 60; refine (isWithin_any _ _ _ _).mono ?_; rintro e w' ⟨rfl, rfl⟩))
  refine (firstError_laid [unI (decide (0 < n)) 10, unI (decide ((n : Int) ≤ 40)) 8, t, unI (withinB s 1 20) 2] 4 _ _ rfl (by decide)).mono ?_
  rintro e w2 ⟨rfl, hw2⟩
  rw [HE.out]
  have HB2 := hide (show Below w.heap.size w w2 by rw [← hw2]; exact HB1.out.alloc HB1.out.size _)
  clear hw2 HB1
  by_cases hv : V = 0
  case neg =>
    have tv : (V != 0) = true := by simpa using hv
    have HV := hide hv
    clear HZ HE HGE hv
    go_wp2_with fail
    go_ret2
    exact ⟨_, rfl, .inr ⟨HV.out, rfl⟩, HB2.out⟩
  obtain ⟨hn0, hn40, ht0, hs1, hs20⟩ := HZ.out hv
  have HFW := hide (HGE.out ht0)
  obtain ⟨u, rfl⟩ : ∃ u : Nat, s = (u : Int) := ⟨s.toNat, by omega⟩
  subst hv
  subst ht0
  clear HZ HE HGE
  have HBT := hide (fun i j (hi : i < n) (hj : j < n) (k : Int) (hk : 0 ≤ k ∧ k ≤ (u : Int)) W => between_any (F i) (F j) k (u : Int) W (HFW.out i hi) (HFW.out j hj) hk ⟨hs1, hs20⟩)
  have HIA := hide (fun i k (hk : k < u) => interF_at F (i := i) (s := u) (k := k) hk)
  have HIL := hide (fun i => interF_last F (s := u) (i := i) (by omega))
  have hu1 : 1 ≤ u := by omega
  have hu20 : u ≤ 20 := by omega
  obtain ⟨b, o, rfl, -, hb, -⟩ := HI.out 0 hn0
  obtain ⟨m, rfl⟩ : ∃ m, n = m + 1 := ⟨n - 1, by omega⟩
  have HMU := hide (fun i (hi : i ≤ m) => (show i * u ≤ 800 from Nat.le_trans (Nat.mul_le_mul hi hu20) (by omega)))
  clear hs1 hs20
  by_cases hc1 : c = 1
  · subst hc1
    obtain rfl : m = 0 := by omega
    go_wp2_with fail
    go_loopw [7, 33] (fun v iv wr => ∃ q : Nat, Hid (q = 0 * u) ∧ iv = .int .i64 0 ∧ OwnPhas wr w.heap.size v q (interF F u) ∧ Below w.heap.size w wr) (fun _ _ _ => 0)
    case atStart => exact ⟨0, hide (by simp), rfl, ownPhas_nil _ _ _, HB2.out⟩
    case round =>
      clear HB2
      obtain ⟨q, HQ, rfl, ho, hB⟩ := hrel
      obtain ⟨wA, rfl⟩ : ∃ x : World, x = wr := ⟨_, rfl⟩
      obtain ⟨O, o9, rfl, ho9, hO⟩ := ownPhas_form ho
      have hq8 : q ≤ 800 := by rw [HQ.out]; omega
      obtain ⟨b', o', e', -, -, c0, c1⟩ := (HI.out.below hB) 0 (by omega)
      injection e' with e'
      injection e' with e1 e2
      subst e1
      subst e2
      simp only [Nat.zero_mul, Nat.add_zero] at c0 c1
      have HBTm := hide (fun W => HBT.out 0 0 (by omega) (by omega) 0 ⟨by omega, by omega⟩ W)
      have HV := hide (HIL.out 0)
      obtain ⟨z, hz⟩ : ∃ z, z = betP (F 0) (F 0) 0 (u : Int) := ⟨_, rfl⟩
      rw [← hz] at HBTm HV
      obtain ⟨x, hx⟩ : ∃ x, x = F 0 := ⟨_, rfl⟩
      rw [← hx] at c0 c1 HBTm
      clear hz hx
      have HO := hide ho
      have HB := hide hB
      have hBs := hB.size
      clear ho hB
      go_upto_region 15 with fail
      obtain ⟨W, hW⟩ : ∃ y : World, y = wA.alloc (.cells #[.int .i64 x.re, .int .i64 x.im] 61) := ⟨_, rfl⟩
      rw [← hW]
      obtain ⟨g, hg⟩ : ∃ g, g = wA.heap.size := ⟨_, rfl⟩
      have bx : Box W g 61 #[.int .i64 x.re, .int .i64 x.im] := by rw [hW]; exact Box.made hg
      have HO1 := hide (show OwnPhas W w.heap.size _ _ _ by rw [hW]; exact HO.out.alloc _)
      have hB1 : Below w.heap.size w W := by rw [hW]; exact HB.out.alloc hBs _
      rw [← hg]
      clear hW hg c0 c1 HO HB hBs
      obtain ⟨y0, y1, g0, g1, hl⟩ := bx.cells2
      go_wp2_with fail
      refine (HBTm.out _).mono ?_
      rintro e w5 ⟨rfl, hb5⟩
      have HO2 := hide (HO1.out.below hb5)
      have hB2 := hB1.trans (hb5.mono hB1.size)
      have hBs2 := hB2.size
      clear hb5 HO1 hB1 y0 y1 g0 g1 hl bx
      go_wp2_with (at_builtin; refine wpList_append_Phas _ rfl (.tmp 61) (.tmp 66) rfl w.heap.size 0 (.slice O q o9) q _ rfl (HO2.out.alloc _) (some ⟨_, 0, none⟩) 1 1 (fun _ => z) rfl (PhasAt.one (Box.made rfl)) (by omega) (by simp; omega) ?_; intro v' w' h1 hb4)
      go_ret2
      obtain ⟨X', x', rfl, -, hX'⟩ := ownPhas_form h1
      have eN : (0 + 1 - 1) * ((u : Nat) : Int).toNat + 1 = q + 1 := by rw [Nat.add_sub_cancel, Int.toNat_natCast, HQ.out]
      refine ⟨_, rfl, .inl ⟨rfl, X', x', by rw [eN]; rfl, ?_⟩, (hB2.alloc hBs2 _).trans hb4⟩
      rw [eN, Int.toNat_natCast]
      refine (hX'.weak (Nat.zero_le _)).congr fun t ht => ?_
      unfold catPha
      by_cases e : t < q
      · rw [if_pos e]
      · obtain rfl : t = q := by omega
        rw [if_neg e, HQ.out, HV.out]
  have hc1' : ¬ (c : Int) = 1 := by omega
  have HX1 := hide (show GausAt w 0 (some ⟨b, o + 2, none⟩) m (fun i => F (i + 1)) from fun i hi => by
    obtain ⟨b', o', e', h1, h2, h3, h4⟩ := HI.out (i + 1) (by omega)
    injection e' with e'
    injection e' with e1 e2
    subst e1
    subst e2
    refine ⟨b, o + 2, rfl, h1, h2, ?_, ?_⟩
    · rw [show o + 2 + i * 2 = o + (i + 1) * 2 by omega]; exact h3
    · rw [show o + 2 + i * 2 + 1 = o + (i + 1) * 2 + 1 by omega]; exact h4)
  go_wp2_with fail
  go_loopw [7, 33] (fun v iv wr => ∃ i q : Nat, i ≤ m ∧ Hid (q = i * u) ∧ iv = .int .i64 (i : Int) ∧ OwnPhas wr w.heap.size v q (interF F u) ∧ Below w.heap.size w wr) (fun _ iv _ => m - (Go.RowKit.intOf iv).toNat)
  case atStart => exact ⟨0, 0, Nat.zero_le _, hide (by simp), rfl, ownPhas_nil _ _ _, HB2.out⟩
  case round =>
    clear HB2
    obtain ⟨i, q, him, HQ, rfl, ho, hB⟩ := hrel
    obtain ⟨wA, rfl⟩ : ∃ x : World, x = wr := ⟨_, rfl⟩
    obtain ⟨O, o9, rfl, ho9, hO⟩ := ownPhas_form ho
    have hq8 : q ≤ 800 := by rw [HQ.out]; exact HMU.out i him
    by_cases hlt : i < m
    · have hltz : (i : Int) < (m : Int) := by omega
      obtain ⟨b', o', e', -, -, c0, c1⟩ := (HX1.out.below hB) i hlt
      injection e' with e'
      injection e' with e1 e2
      subst e1
      subst e2
      obtain ⟨y, hy⟩ : ∃ y, y = F (i + 1) := ⟨_, rfl⟩
      simp only at c0 c1
      rw [← hy] at c0 c1
      have HBTi := hide (fun (k : Int) (hk : 0 ≤ k ∧ k ≤ (u : Int)) W => HBT.out i (i + 1) (by omega) (by omega) k hk W)
      obtain ⟨x, hx⟩ : ∃ x, x = F i := ⟨_, rfl⟩
      have HIAi := hide (fun k (hk : k < u) => HIA.out i k hk)
      rw [← hx, ← hy] at HBTi HIAi
      have HIi := hide (HI.out i (by omega))
      rw [← hx] at HIi
      have HQi := hide (show (i + 1) * u = i * u + u from Nat.succ_mul i u)
      have hBs := hB.size
      clear hx hy
      go_upto_region 8 with fail
      obtain ⟨W, hW⟩ : ∃ y' : World, y' = wA.alloc (.cells #[.int .i64 y.re, .int .i64 y.im] 61) := ⟨_, rfl⟩
      rw [← hW]
      obtain ⟨g, hg⟩ : ∃ g, g = wA.heap.size := ⟨_, rfl⟩
      have bx : Box W g 61 #[.int .i64 y.re, .int .i64 y.im] := by rw [hW]; exact Box.made hg
      have HO1 := hide (show OwnPhas W w.heap.size _ _ _ by rw [hW]; exact ho.alloc _)
      have hB1 : Below w.heap.size w W := by rw [hW]; exact hB.alloc hBs _
      have hgw : w.heap.size ≤ g := by rw [hg]; exact hBs
      have HNG := hide (show (Value.slice O q o9).ownBlock ≠ some g from fun e => by have := (World.ownsRow.lt ho g e).2; omega)
      rw [← hg]
      clear hW hg c0 c1 ho hB hO
      go_wp2_with fail
      go_loopw [7, 39] (fun v kv wr => ∃ k r : Nat, k ≤ u ∧ Hid (r = i * u + k) ∧ kv = .int .i64 (k : Int) ∧ OwnPhas wr w.heap.size v r (interF F u) ∧ Hid (v.ownBlock ≠ some g) ∧ Hid (Box wr g 61 #[.int .i64 y.re, .int .i64 y.im]) ∧ Below w.heap.size w wr) (fun _ kv _ => u - (Go.RowKit.intOf kv).toNat)
      case atStart => exact ⟨0, q, Nat.zero_le _, hide (by rw [Nat.add_zero]; exact HQ.out), rfl, HO1.out, HNG, hide bx, hB1⟩
      case round =>
        clear HO1 bx hB1 HNG
        obtain ⟨k, r, hku, HR, rfl, ho, HNG, HBX, hB⟩ := hrel
        obtain ⟨wB, rfl⟩ : ∃ x : World, x = wr := ⟨_, rfl⟩
        obtain ⟨P, p9, rfl, hp9, hP⟩ := ownPhas_form ho
        have hBs := hB.size
        by_cases hk : k < u
        · have hkz : (k : Int) < (u : Int) := by omega
          obtain ⟨b', o', e', -, hb', c0, c1⟩ := HIi.out
          injection e' with e'
          injection e' with e1 e2
          subst e1
          subst e2
          have hc1 : i * 2 = i * 2 := rfl
          have hil : (i : Int) < (m : Int) + 1 := by omega
          have HBTk := hide (fun W => HBTi.out (k : Int) ⟨by omega, by omega⟩ W)
          have HV := hide (HIAi.out k hk)
          obtain ⟨z, hz⟩ : ∃ z, z = betP x y (k : Int) (u : Int) := ⟨_, rfl⟩
          rw [← hz] at HBTk HV
          have hr9 : r ≤ 900 := by rw [HR.out]; have := HMU.out i him; omega
          have HS := hide (fun W' (h : Below wB.heap.size wB W') => (⟨(h.cell (p := ⟨b, o + i * 2, none⟩) (Nat.lt_of_lt_of_le hb' hBs)).trans ((hB.cell (p := ⟨b, o + i * 2, none⟩) hb').trans c0), (h.cell (p := ⟨b, o + i * 2 + 1, none⟩) (Nat.lt_of_lt_of_le hb' hBs)).trans ((hB.cell (p := ⟨b, o + i * 2 + 1, none⟩) hb').trans c1), (HBX.out.below h).at_ 0, (HBX.out.below h).at_ 1⟩ : W'.cell? ⟨b, o + i * 2, none⟩ = some (.int .i64 x.re) ∧ W'.cell? ⟨b, o + i * 2 + 1, none⟩ = some (.int .i64 x.im) ∧ W'.cell? ⟨g, 0, none⟩ = some (.int .i64 y.re) ∧ W'.cell? ⟨g, 1, none⟩ = some (.int .i64 y.im)))
          have hS1 := HS.out _ (Below.refl _ _)
          have HCI := hide (fun W' (h : Below w.heap.size w W') => (⟨(h.cell (p := ⟨b, o + i * 2, none⟩) hb').trans c0, (h.cell (p := ⟨b, o + i * 2 + 1, none⟩) hb').trans c1⟩ : W'.cell? ⟨b, o + i * 2, none⟩ = some (.int .i64 x.re) ∧ W'.cell? ⟨b, o + i * 2 + 1, none⟩ = some (.int .i64 x.im)))
          have HO := hide ho
          have HB := hide hB
          clear hz ho hB hP c0 c1 hb'
          go_upto_region 11 with fail
          refine wp_region_held_drew (S := fun w' => w'.cell? ⟨b, o + i * 2, none⟩ = some (.int .i64 x.re) ∧ w'.cell? ⟨b, o + i * 2 + 1, none⟩ = some (.int .i64 x.im) ∧ w'.cell? ⟨g, 0, none⟩ = some (.int .i64 y.re) ∧ w'.cell? ⟨g, 1, none⟩ = some (.int .i64 y.im)) (by kernel_rfl) hS1 (fun hHeld => ?_)
          clear hS1
          refine wpAnyH_take (i := 0) (oi := ⟨some 42, _, _, _, _, _⟩) (v := ?_) rfl (by kernel_rfl) (by kernel_rfl) (by kernel_rfl) (fun _ _ _ h => h) (Or.inl ⟨by rfl, ?_⟩) (by assumption) ?_
          rotate_left
          · (intro w' hSw; (try dsimp only at hSw); go_simp <;> (with_reducible rfl))
          try simp only [Act.put, List.setIfInBounds_toArray, List.set_cons_zero, List.set_cons_succ]
          refine wpAnyH_take (i := 1) (oi := ⟨some 43, _, _, _, _, _⟩) (v := ?_) rfl (by kernel_rfl) (by kernel_rfl) (by kernel_rfl) (fun _ _ _ h => h) (Or.inl ⟨by rfl, ?_⟩) (by assumption) ?_
          rotate_left
          · (intro w' hSw; (try dsimp only at hSw); go_simp <;> (with_reducible rfl))
          try simp only [Act.put, List.setIfInBounds_toArray, List.set_cons_zero, List.set_cons_succ]
          refine wpAnyH_take (i := 2) (oi := ⟨some 44, _, _, _, _, _⟩) (v := ?_) rfl (by kernel_rfl) (by kernel_rfl) (by kernel_rfl) (fun _ _ _ h => h) (Or.inl ⟨by rfl, ?_⟩) (by assumption) ?_
          rotate_left
          · (intro w' hSw; (try dsimp only at hSw); go_simp <;> (with_reducible rfl))
          try simp only [Act.put, List.setIfInBounds_toArray, List.set_cons_zero, List.set_cons_succ]
          refine wpAnyH_take (i := 3) (oi := ⟨some 45, _, _, _, _, _⟩) (v := ?_) rfl (by kernel_rfl) (by kernel_rfl) (by kernel_rfl) (fun _ _ _ h => h) (Or.inl ⟨by rfl, ?_⟩) (by assumption) ?_
          rotate_left
          · (intro w' hSw; (try dsimp only at hSw); go_simp <;> (with_reducible rfl))
          try simp only [Act.put, List.setIfInBounds_toArray, List.set_cons_zero, List.set_cons_succ]
          refine wpAnyH_take (i := 4) (oi := ⟨some 46, _, _, _, _, _⟩) (v := ?_) rfl (by kernel_rfl) (by kernel_rfl) (by kernel_rfl) (fun _ _ _ h => h) (Or.inl ⟨by rfl, ?_⟩) (by assumption) ?_
          rotate_left
          · (intro w' hSw; (try dsimp only at hSw); go_simp <;> (with_reducible rfl))
          try simp only [Act.put, List.setIfInBounds_toArray, List.set_cons_zero, List.set_cons_succ]
          refine wpAnyH_take (i := 5) (oi := ⟨some 47, _, _, _, _, _⟩) (v := ?_) rfl (by kernel_rfl) (by kernel_rfl) (by kernel_rfl) (fun _ _ _ h => h) (Or.inl ⟨by rfl, ?_⟩) (by assumption) ?_
          rotate_left
          · (intro w' hSw; (try dsimp only at hSw); go_simp <;> (with_reducible rfl))
          try simp only [Act.put, List.setIfInBounds_toArray, List.set_cons_zero, List.set_cons_succ]
          refine wpAnyH_take (i := 6) (oi := ⟨some 48, _, _, _, _, _⟩) (v := ?_) rfl (by kernel_rfl) (by kernel_rfl) (by kernel_rfl) (fun _ _ _ h => h) (Or.inl ⟨by rfl, ?_⟩) (by assumption) ?_
          rotate_left
          · (intro w' hSw; (try dsimp only at hSw); go_simp <;> (with_reducible rfl))
          try simp only [Act.put, List.setIfInBounds_toArray, List.set_cons_zero, List.set_cons_succ]
          refine wpAnyH_take (i := 7) (oi := ⟨some 49, _, _, _, _, _⟩) (v := ?_) rfl (by kernel_rfl) (by kernel_rfl) (by kernel_rfl) (fun _ _ _ h => h) (Or.inl ⟨by rfl, ?_⟩) (by assumption) ?_
          rotate_left
          · (intro w' hSw; (try dsimp only at hSw); go_simp <;> (with_reducible rfl))
          try simp only [Act.put, List.setIfInBounds_toArray, List.set_cons_zero, List.set_cons_succ]
          refine wpAnyH_ready (rs := [8]) (by kernel_rfl) (by simp) ?_
          refine AllReadyH.cons (o := ⟨some 50, _, _, _, _, _⟩) rfl (fun K' hK => ?_) AllReadyH.nil
          go_simp
          go_at_call 67
          refine (HBTk.out _).mono ?_
          rintro e w5 ⟨rfl, hb5⟩
          have hc5 : Below wB.heap.size wB w5 := by first | exact hb5 | exact below_of_drew hb5 | exact below_of_drew (below_of_drew hb5)
          have hS5 := HS.out _ hc5
          have HO5 := hide (HO.out.below hc5)
          have hB5 := HB.out.trans (hc5.mono hBs)
          have HBX5 := hide (HBX.out.below hc5)
          have hBs5 := hB5.size
          clear hb5 HO HB HBX
          go_wp2_with fail
          refine hK.out _ _ hS5 (fun hHeld => ?_)
          clear hK K'
          try simp only [Act.put, List.setIfInBounds_toArray, List.set_cons_zero, List.set_cons_succ]
          refine wpAnyH_ready (rs := [9]) (by kernel_rfl) (by simp) ?_
          refine AllReadyH.cons (o := ⟨some 51, _, _, _, _, _⟩) rfl (fun K' hK => ?_) AllReadyH.nil
          go_simp
          have hAL : Below w5.heap.size w5 (w5.alloc (.cells #[.int .i64 z.re, .int .i64 z.im, .int .i64 z.den] 63)) := (Below.refl _ _).alloc (Nat.le_refl _) _
          refine hK.out _ _ (HS.out _ (hc5.trans (hAL.mono hc5.size))) (fun hHeld => ?_)
          clear hK K'
          try simp only [Act.put, List.setIfInBounds_toArray, List.set_cons_zero, List.set_cons_succ]
          refine wpAnyH_ready (rs := [10]) (by kernel_rfl) (by simp) ?_
          refine AllReadyH.cons (o := ⟨some 52, _, _, _, _, _⟩) rfl (fun K' hK => ?_) AllReadyH.nil
          refine stepG_append_Phas _ rfl (.tmp 42) (.tmp 51) rfl w.heap.size 0 (.slice P r p9) r _ rfl (HO5.out.alloc _) (some ⟨_, 0, none⟩) 1 1 (fun _ => z) rfl (PhasAt.one (Box.made rfl)) (by omega) (by simp; omega) ?_
          intro v' w' h1 hb4 hgr hob
          have HBX6 := hide (show Box w' g 61 #[.int .i64 y.re, .int .i64 y.im] from (hgr.block g (by have := HBX5.out.lt; simp; omega) (fun e => HNG.out e.symm)).trans (HBX5.out.alloc _))
          have HNG6 := hide (show v'.ownBlock ≠ some g from fun e => by
            rcases hob with h | h
            · exact HNG.out (h ▸ e)
            · rw [e] at h
              injection h with h
              have := HBX5.out.lt
              simp at h
              omega)
          have hS6 : w'.cell? ⟨b, o + i * 2, none⟩ = some (.int .i64 x.re) ∧ w'.cell? ⟨b, o + i * 2 + 1, none⟩ = some (.int .i64 x.im) ∧ w'.cell? ⟨g, 0, none⟩ = some (.int .i64 y.re) ∧ w'.cell? ⟨g, 1, none⟩ = some (.int .i64 y.im) := ⟨HCI.out _ ((hB5.alloc hBs5 _).trans hb4) |>.1, HCI.out _ ((hB5.alloc hBs5 _).trans hb4) |>.2, HBX6.out.at_ 0, HBX6.out.at_ 1⟩
          refine hK.out _ _ hS6 (fun hHeld => ?_)
          clear hK K'
          try simp only [Act.put, List.setIfInBounds_toArray, List.set_cons_zero, List.set_cons_succ]
          refine wpAnyH_ready (rs := [11]) (by kernel_rfl) (by simp) ?_
          refine AllReadyH.cons (o := ⟨some 7, _, _, _, _, _⟩) rfl (fun K' hK => ?_) AllReadyH.nil
          go_simp
          refine hK.out _ _ hS6 (fun hHeld => ?_)
          clear hK K'
          try simp only [Act.put, List.setIfInBounds_toArray, List.set_cons_zero, List.set_cons_succ]
          refine wpAnyH_done (by kernel_rfl) ?_ _
          go_wp2_with fail
          go_roundw
          case rel =>
            refine ⟨k + 1, r + 1, by omega, hide (by rw [HR.out, Nat.add_assoc]), by go_num, h1.congr fun t ht => ?_, HNG6, HBX6, (hB5.alloc hBs5 _).trans hb4⟩
            · unfold catPha
              by_cases e : t < r
              · rw [if_pos e]
              · obtain rfl : t = r := by omega
                rw [if_neg e, HR.out, HV.out]
          case measure => simp [Go.RowKit.intOf]; omega
        · obtain rfl : k = u := by omega
          have hkz : ¬ ((k : Int) < (k : Int)) := by omega
          have HO := hide ho
          have HB := hide hB
          clear ho hB hP
          go_wp2_with fail
          go_roundw
          case rel => exact ⟨i + 1, r, by omega, hide (by rw [HR.out, HQi.out]), by go_num, HO.out, HB.out⟩
          case measure => simp [Go.RowKit.intOf]; omega
    · obtain rfl : i = m := by omega
      have hltz : ¬ ((i : Int) < (i : Int)) := by omega
      obtain ⟨b', o', e', -, -, c0, c1⟩ := (HI.out.below hB) i (by omega)
      injection e' with e'
      injection e' with e1 e2
      subst e1
      subst e2
      have HBTi := hide (fun W => HBT.out i i (by omega) (by omega) 0 ⟨by omega, by omega⟩ W)
      have HV := hide (HIL.out i)
      obtain ⟨z, hz⟩ : ∃ z, z = betP (F i) (F i) 0 (u : Int) := ⟨_, rfl⟩
      rw [← hz] at HBTi HV
      obtain ⟨x, hx⟩ : ∃ x, x = F i := ⟨_, rfl⟩
      rw [← hx] at c0 c1 HBTi
      clear hz hx
      have p1 : IntKind.i64.wrap ((i : Int) + 1 - 1) = (i : Int) := by rw [show (i : Int) + 1 - 1 = (i : Int) by omega]; exact IntWalk.i64_in _ (by omega)
      have hmlt : (i : Int) < (i : Int) + 1 := by omega
      have HO := hide ho
      have HB := hide hB
      have hBs := hB.size
      clear ho hB
      go_upto_region 15 with fail
      obtain ⟨W, hW⟩ : ∃ y : World, y = wA.alloc (.cells #[.int .i64 x.re, .int .i64 x.im] 61) := ⟨_, rfl⟩
      rw [← hW]
      obtain ⟨g, hg⟩ : ∃ g, g = wA.heap.size := ⟨_, rfl⟩
      have bx : Box W g 61 #[.int .i64 x.re, .int .i64 x.im] := by rw [hW]; exact Box.made hg
      have HO1 := hide (show OwnPhas W w.heap.size _ _ _ by rw [hW]; exact HO.out.alloc _)
      have hB1 : Below w.heap.size w W := by rw [hW]; exact HB.out.alloc hBs _
      rw [← hg]
      clear hW hg c0 c1 HO HB hBs p1 hmlt
      obtain ⟨y0, y1, g0, g1, hl⟩ := bx.cells2
      go_wp2_with fail
      refine (HBTi.out _).mono ?_
      rintro e w5 ⟨rfl, hb5⟩
      have HO2 := hide (HO1.out.below hb5)
      have hB2 := hB1.trans (hb5.mono hB1.size)
      have hBs2 := hB2.size
      clear hb5 HO1 hB1 y0 y1 g0 g1 hl bx
      go_wp2_with (at_builtin; refine wpList_append_Phas _ rfl (.tmp 61) (.tmp 66) rfl w.heap.size 0 (.slice O q o9) q _ rfl (HO2.out.alloc _) (some ⟨_, 0, none⟩) 1 1 (fun _ => z) rfl (PhasAt.one (Box.made rfl)) (by omega) (by simp; omega) ?_; intro v' w' h1 hb4)
      go_ret2
      obtain ⟨X', x', rfl, -, hX'⟩ := ownPhas_form h1
      have eN : (i + 1 - 1) * ((u : Nat) : Int).toNat + 1 = q + 1 := by rw [Nat.add_sub_cancel, Int.toNat_natCast, HQ.out]
      refine ⟨_, rfl, .inl ⟨rfl, X', x', by rw [eN]; rfl, ?_⟩, (hB2.alloc hBs2 _).trans hb4⟩
      rw [eN, Int.toNat_natCast]
      refine (hX'.weak (Nat.zero_le _)).congr fun t ht => ?_
      unfold catPha
      by_cases e : t < q
      · rw [if_pos e]
      · obtain rfl : t = q := by omega
        rw [if_neg e, HQ.out, HV.out]
end Go.Proofs.Ytmcgmlhpbpjmgaa
/- A sequence is away from what is interpolated by at most its bend times k (s - k) / 2 (without a walk). -/
namespace Go.Proofs.Ytmcgmlhpbpjmgaa
open Go.RowKit
/-- A concave sequence that is 0 at both ends is not below 0. -/
theorem concave {s : Nat} {h : Nat → Int} (h0 : h 0 = 0) (hs : h s = 0) (hc : ∀ k, k + 2 ≤ s → h (k + 2) - 2 * h (k + 1) + h k ≤ 0) : ∀ k, k ≤ s → 0 ≤ h k := by
  have anti : ∀ j i, i ≤ j → j + 1 ≤ s → h (j + 1) - h j ≤ h (i + 1) - h i := by
    intro j
    induction j with
    | zero =>
      intro i hi _
      obtain rfl : i = 0 := by omega
      exact Int.le_refl _
    | succ j ih =>
      intro i hi hj
      by_cases e : i = j + 1
      · subst e; exact Int.le_refl _
      · have h1 := ih i (by omega) (by omega)
        have h2 := hc j (by omega)
        show h (j + 2) - h (j + 1) ≤ _
        omega
  intro k hk
  by_cases e : k = s
  · subst e; omega
  by_cases hd : 0 ≤ h (k + 1) - h k
  · have up : ∀ i, i ≤ k → 0 ≤ h i := by
      intro i
      induction i with
      | zero => intro _; omega
      | succ i ih =>
        intro hi
        have h1 := ih (by omega)
        have h2 := anti k i (by omega) (by omega)
        omega
    exact up k (Nat.le_refl _)
  · have down : ∀ i, k + i ≤ s → h (k + i) ≤ h k := by
      intro i
      induction i with
      | zero => intro _; exact Int.le_refl _
      | succ i ih =>
        intro hi
        have h1 := ih (by omega)
        have h2 := anti (k + i) k (by omega) (by omega)
        rw [← Nat.add_assoc]
        omega
    have h1 := down (s - k) (by omega)
    rw [show k + (s - k) = s by omega] at h1
    omega
theorem interp_up {s : Nat} {f : Nat → Int} {B : Int} (hf : ∀ j, j + 2 ≤ s → f (j + 2) - 2 * f (j + 1) + f j ≤ B) : ∀ k : Nat, k ≤ s → 2 * (btw (f 0) (f s) (k : Int) (s : Int) - (s : Int) * f k) ≤ (s : Int) * (B * (k : Int) * ((s : Int) - (k : Int))) := by
  have key := concave (s := s) (h := fun k => (s : Int) * (B * (k : Int) * ((s : Int) - (k : Int))) - 2 * (btw (f 0) (f s) (k : Int) (s : Int) - (s : Int) * f k)) (by
    show (s : Int) * (B * ((0 : Nat) : Int) * ((s : Int) - ((0 : Nat) : Int))) - 2 * (btw (f 0) (f s) ((0 : Nat) : Int) (s : Int) - (s : Int) * f 0) = 0
    unfold btw
    simp only [Int.natCast_zero]
    grind) (by
    show (s : Int) * (B * (s : Int) * ((s : Int) - (s : Int))) - 2 * (btw (f 0) (f s) (s : Int) (s : Int) - (s : Int) * f s) = 0
    unfold btw
    grind) (by
    intro k hk
    show (s : Int) * (B * ((k + 2 : Nat) : Int) * ((s : Int) - ((k + 2 : Nat) : Int))) - 2 * (btw (f 0) (f s) ((k + 2 : Nat) : Int) (s : Int) - (s : Int) * f (k + 2)) - 2 * ((s : Int) * (B * ((k + 1 : Nat) : Int) * ((s : Int) - ((k + 1 : Nat) : Int))) - 2 * (btw (f 0) (f s) ((k + 1 : Nat) : Int) (s : Int) - (s : Int) * f (k + 1))) + ((s : Int) * (B * (k : Int) * ((s : Int) - (k : Int))) - 2 * (btw (f 0) (f s) (k : Int) (s : Int) - (s : Int) * f k)) ≤ 0
    have h1 := hf k hk
    have e1 : ((k + 2 : Nat) : Int) = (k : Int) + 2 := by omega
    have e2 : ((k + 1 : Nat) : Int) = (k : Int) + 1 := by omega
    rw [e1, e2]
    unfold btw
    have hS : 0 ≤ (s : Int) := by omega
    generalize (s : Int) = S at *
    generalize (k : Int) = K at *
    generalize f (k + 2) = x2 at *
    generalize f (k + 1) = x1 at *
    generalize f k = x0 at *
    have h2 : 0 ≤ S * (B - (x2 - 2 * x1 + x0)) := Int.mul_nonneg hS (by omega)
    have e : S * (B * (K + 2) * (S - (K + 2))) - 2 * (f 0 * (S - (K + 2)) + f s * (K + 2) - S * x2) - 2 * (S * (B * (K + 1) * (S - (K + 1))) - 2 * (f 0 * (S - (K + 1)) + f s * (K + 1) - S * x1)) + (S * (B * K * (S - K)) - 2 * (f 0 * (S - K) + f s * K - S * x0)) = -2 * (S * (B - (x2 - 2 * x1 + x0))) := by grind
    rw [e]
    omega)
  intro k hk
  have := key k hk
  omega
theorem interp_down {s : Nat} {f : Nat → Int} {B : Int} (hf : ∀ j, j + 2 ≤ s → -(f (j + 2) - 2 * f (j + 1) + f j) ≤ B) (k : Nat) (hk : k ≤ s) : 2 * ((s : Int) * f k - btw (f 0) (f s) (k : Int) (s : Int)) ≤ (s : Int) * (B * (k : Int) * ((s : Int) - (k : Int))) := by
  have h := interp_up (s := s) (f := fun j => -f j) (B := B) (fun j hj => by have := hf j hj; show -f (j + 2) - 2 * -f (j + 1) + -f j ≤ B; omega) k hk
  unfold btw at h ⊢
  simp only [Int.neg_mul, Int.mul_neg] at h
  omega
/-- What the greatest common divisor leaves. -/
theorem betD_pos (a b : Gau) (k s : Int) (hs : 0 < s) : 0 < ((betD a b k s : Nat) : Int) ∧ ((betD a b k s : Nat) : Int) ≤ s := gcd_pos hs
theorem betP_mul (a b : Gau) (k s : Int) : (betP a b k s).re * (betD a b k s : Nat) = btw a.re b.re k s ∧ (betP a b k s).im * (betD a b k s : Nat) = btw a.im b.im k s ∧ (betP a b k s).den * (betD a b k s : Nat) = s := by
  have h1 : ((betD a b k s : Nat) : Int) ∣ s := Int.gcd_dvd_left ..
  have h2 : ((betD a b k s : Nat) : Int) ∣ ((Int.gcd (btw a.re b.re k s) (btw a.im b.im k s) : Nat) : Int) := Int.gcd_dvd_right ..
  have h3 := Int.dvd_trans h2 (Int.gcd_dvd_left (a := btw a.re b.re k s) (b := btw a.im b.im k s))
  have h4 := Int.dvd_trans h2 (Int.gcd_dvd_right (a := btw a.re b.re k s) (b := btw a.im b.im k s))
  exact ⟨Int.tdiv_mul_cancel h3, Int.tdiv_mul_cancel h4, Int.tdiv_mul_cancel h1⟩
theorem betP_den (a b : Gau) (k s : Int) (hs : 1 ≤ s ∧ s ≤ 20) : 1 ≤ (betP a b k s).den ∧ (betP a b k s).den ≤ 20 := by
  obtain ⟨h1, h2⟩ := betD_pos a b k s (by omega)
  obtain ⟨-, -, h3⟩ := betP_mul a b k s
  have h4 := tdiv_size s ((betD a b k s : Nat) : Int)
  have h5 : (betP a b k s).den = s.tdiv ((betD a b k s : Nat) : Int) := rfl
  rw [← h5] at h4
  have h6 : 0 < (betP a b k s).den := by
    by_cases h : 0 < (betP a b k s).den
    · exact h
    · have h : (betP a b k s).den ≤ 0 := by omega
      have := Int.mul_nonpos_of_nonpos_of_nonneg h (show 0 ≤ ((betD a b k s : Nat) : Int) by omega)
      omega
  omega
theorem betP_parts (a b : Gau) (k s : Int) (ha : a.Within 10000) (hb : b.Within 10000) (hk : 0 ≤ k ∧ k ≤ s) (hs : s ≤ 20) : (-400000 ≤ (betP a b k s).re ∧ (betP a b k s).re ≤ 400000) ∧ -400000 ≤ (betP a b k s).im ∧ (betP a b k s).im ≤ 400000 := by
  obtain ⟨h1, h2⟩ := btw_parts ha.re hb.re hk hs
  obtain ⟨h3, h4⟩ := btw_parts ha.im hb.im hk hs
  have h5 := tdiv_size (btw a.re b.re k s) ((betD a b k s : Nat) : Int)
  have h6 := tdiv_size (btw a.im b.im k s) ((betD a b k s : Nat) : Int)
  have h7 : -400000 ≤ btw a.re b.re k s ∧ btw a.re b.re k s ≤ 400000 := by unfold btw; omega
  have h8 : -400000 ≤ btw a.im b.im k s ∧ btw a.im b.im k s ≤ 400000 := by unfold btw; omega
  have e1 : (betP a b k s).re = (btw a.re b.re k s).tdiv ((betD a b k s : Nat) : Int) := rfl
  have e2 : (betP a b k s).im = (btw a.im b.im k s).tdiv ((betD a b k s : Nat) : Int) := rfl
  rw [e1, e2]
  omega
/-- From the s-fold to what is left. -/
theorem cancelD {x den D R s w T : Int} (hD : 0 < D) (hx : x * D = R) (hd : den * D = s) (h1 : 2 * (R - s * w) ≤ s * T) (h2 : 2 * (s * w - R) ≤ s * T) : 2 * max (x - w * den) (-(x - w * den)) ≤ T * den := by
  have k1 : 2 * (x - w * den) ≤ T * den := by
    refine Int.le_of_mul_le_mul_right (a := D) ?_ hD
    have e1 : 2 * (x - w * den) * D = 2 * (R - s * w) := by rw [← hx, ← hd]; grind
    have e2 : T * den * D = s * T := by rw [← hd]; grind
    rw [e1, e2]; exact h1
  have k2 : 2 * (w * den - x) ≤ T * den := by
    refine Int.le_of_mul_le_mul_right (a := D) ?_ hD
    have e1 : 2 * (w * den - x) * D = 2 * (s * w - R) := by rw [← hx, ← hd]; grind
    have e2 : T * den * D = s * T := by rw [← hd]; grind
    rw [e1, e2]; exact h2
  omega
end Go.Proofs.Ytmcgmlhpbpjmgaa
/- BendOf of the code. -/
namespace Go.Proofs.Ytmcgmlhpbpjmgaa
open Go.RowKit
def d2 (x y z : Int) : Int := z - 2 * y + x
def max5 (a b c d e : Int) : Int := max (max (max (max a b) c) d) e
theorem run_max5 (w : World) (ts : Array TypeId) (t : TypeId) (k1 k2 k3 k4 k5 : IntKind) (a b c d e : Int) :
    (Builtin.max_ ts t #[.int k1 a, .int k2 b, .int k3 c, .int k4 d, .int k5 e]).run Try.prog w = .ok (.int k1 (max5 a b c d e)) w := by
  have h : ∀ x y : Int, (if y > x then y else x) = max x y := fun x y => by
    rw [Int.max_def]
    split <;> split <;> omega
  simp [Builtin.max_, Builtin.max2, h, max5]
/-- The bend of the first k numbers. -/
def bendTo (F : Nat → Gau) : Nat → Int
  | 0 => 0
  | 1 => 0
  | 2 => 0
  | k + 3 => max5 (bendTo F (k + 2)) (d2 (F k).re (F (k + 1)).re (F (k + 2)).re) (-d2 (F k).re (F (k + 1)).re (F (k + 2)).re) (d2 (F k).im (F (k + 1)).im (F (k + 2)).im) (-d2 (F k).im (F (k + 1)).im (F (k + 2)).im)
theorem bendTo_le {F : Nat → Gau} : ∀ n, (∀ j, j < n → (F j).Within 10000) → 0 ≤ bendTo F n ∧ bendTo F n ≤ 40000
  | 0, _ => by unfold bendTo; decide
  | 1, _ => by unfold bendTo; decide
  | 2, _ => by unfold bendTo; decide
  | k + 3, h => by
    have h1 := bendTo_le (F := F) (k + 2) fun j hj => h j (by omega)
    have a0 := h k (by omega)
    have a1 := h (k + 1) (by omega)
    have a2 := h (k + 2) (by omega)
    obtain ⟨p0, q0⟩ := a0
    obtain ⟨p1, q1⟩ := a1
    obtain ⟨p2, q2⟩ := a2
    unfold bendTo max5 d2
    omega
theorem bendTo_ge {F : Nat → Gau} : ∀ n j, j + 2 < n → (d2 (F j).re (F (j + 1)).re (F (j + 2)).re ≤ bendTo F n ∧ -d2 (F j).re (F (j + 1)).re (F (j + 2)).re ≤ bendTo F n) ∧ d2 (F j).im (F (j + 1)).im (F (j + 2)).im ≤ bendTo F n ∧ -d2 (F j).im (F (j + 1)).im (F (j + 2)).im ≤ bendTo F n
  | 0, j, h => by omega
  | 1, j, h => by omega
  | 2, j, h => by omega
  | k + 3, j, h => by
    unfold bendTo max5
    by_cases e : j = k
    · subst e
      omega
    · have h1 := bendTo_ge (F := F) (k + 2) j (by omega)
      omega
def bendE (n : Nat) (F : Nat → Gau) : Int := if 800 < n then 8 else gausE 10000 F n
theorem bendE_first (n : Nat) (F : Nat → Gau) : firstE [unI (decide ((n : Int) ≤ 800)) 8, gausE 10000 F n] = bendE n F := by
  rw [firstE_two]
  unfold bendE twoE unI
  by_cases h : 800 < n
  · rw [if_pos h, if_neg (show ¬ decide ((n : Int) ≤ 800) = true by simp; omega), if_neg (by decide)]
  · rw [if_neg h, if_pos (show decide ((n : Int) ≤ 800) = true by simp; omega), if_pos rfl]
def bendV (n : Nat) (F : Nat → Gau) : Int := if bendE n F = 0 then bendTo F n else 0
theorem bendE_zero {n : Nat} {F : Nat → Gau} (h : bendE n F = 0) : n ≤ 800 ∧ gausE 10000 F n = 0 := by
  unfold bendE at h
  by_cases h1 : 800 < n
  · rw [if_pos h1] at h; exact absurd h (by decide)
  · rw [if_neg h1] at h; exact ⟨by omega, h⟩
set_option maxHeartbeats 4000000 in
set_option maxRecDepth 100000 in
theorem BendOf_any (A : Option Addr) (n c : Nat) (F : Nat → Gau) (w : World) (hn : n ≤ 100000) (hI : GausAt w 0 A n F) :
    Calls Try.prog 27 #[.slice A n c] w fun e w' => e = .returned (.tuple #[.int .i64 (bendV n F), .int .i64 (bendE n F)]) ∧ Below w.heap.size w w' := by
  have HE := hide (bendE_first n F)
  have HR := hide (show bendV n F = if bendE n F = 0 then bendTo F n else 0 from rfl)
  have HX := hide (entriesError_any A n c F w hn hI)
  have HI := hide hI
  have HZ := hide (bendE_zero (n := n) (F := F))
  have HGE := hide (gausE_within (M := 10000) (F := F) (n := n))
  clear hI
  generalize bendE n F = V at *
  generalize bendV n F = R at *
  obtain ⟨t, ht⟩ : ∃ z, z = gausE 10000 F n := ⟨_, rfl⟩
  rw [← ht] at HE HX HZ HGE
  clear ht
  go_enter Try.func27, Try.ntmps27
  go_wp2_with (go_at_call 43; refine (unless_any _ _ _).mono ?_; rintro e w' ⟨rfl, rfl⟩)
  refine HX.out.mono ?_
  rintro e w1 ⟨rfl, hb1⟩
  have HB1 := hide hb1
  clear hb1 HX
  go_wp2_with fail
  refine (firstError_laid [unI (decide ((n : Int) ≤ 800)) 8, t] 2 _ _ rfl (by decide)).mono ?_
  rintro e w2 ⟨rfl, hw2⟩
  rw [HE.out]
  have HB2 := hide (show Below w.heap.size w w2 by rw [← hw2]; exact HB1.out.alloc HB1.out.size _)
  clear hw2 HB1
  by_cases hv : V = 0
  case neg =>
    have tv : (V != 0) = true := by simpa using hv
    have hR := HR.out
    rw [if_neg hv] at hR
    subst hR
    clear HZ HE HGE HR hv
    go_wp2_with fail
    go_ret2
    exact ⟨rfl, HB2.out⟩
  obtain ⟨hn8, ht0⟩ := HZ.out hv
  have HFW := hide (HGE.out ht0)
  have hR := hide (HR.out.trans (if_pos hv))
  subst hv
  subst ht0
  clear HZ HE HGE HR
  go_wp2_with fail
  go_loopw [5, 6] (fun v i wr => ∃ k : Nat, 2 ≤ k ∧ (k ≤ n ∨ k = 2) ∧ i = .int .i64 (k : Int) ∧ v = .int .i64 (bendTo F k) ∧ Below w.heap.size w wr) (fun _ i _ => n - (Go.RowKit.intOf i).toNat)
  case atStart => exact ⟨2, Nat.le_refl _, .inr rfl, rfl, rfl, HB2.out⟩
  case round =>
    clear HB2
    obtain ⟨k, hk2, hk, rfl, rfl, hB⟩ := hrel
    obtain ⟨wA, rfl⟩ : ∃ x : World, x = wr := ⟨_, rfl⟩
    by_cases hlt : k < n
    · have hltz : (k : Int) < (n : Int) := by omega
      obtain ⟨j0, hj0⟩ : ∃ j, k = j + 2 := ⟨k - 2, by omega⟩
      obtain ⟨j1, hj1⟩ : ∃ j, j = j0 + 1 := ⟨_, rfl⟩
      have HN := hide (show bendTo F (k + 1) = max5 (bendTo F k) (d2 (F j0).re (F j1).re (F k).re) (-d2 (F j0).re (F j1).re (F k).re) (d2 (F j0).im (F j1).im (F k).im) (-d2 (F j0).im (F j1).im (F k).im) by subst hj1; subst hj0; rfl)
      have hbt := bendTo_le (F := F) k fun j hj => HFW.out j (by omega)
      obtain ⟨b, o, rfl, -, hb, c0, c1⟩ := (HI.out.below hB) k hlt
      obtain ⟨b', o', e', -, -, d0, d1⟩ := (HI.out.below hB) j1 (by omega)
      injection e' with e'
      injection e' with e1 e2
      subst e1
      subst e2
      obtain ⟨b', o', e', -, -, f0, f1⟩ := (HI.out.below hB) j0 (by omega)
      injection e' with e'
      injection e' with e1 e2
      subst e1
      subst e2
      obtain ⟨xr, xi⟩ := HFW.out j0 (by omega)
      obtain ⟨yr, yi⟩ := HFW.out j1 (by omega)
      obtain ⟨zr, zi⟩ := HFW.out k hlt
      have p1 : IntKind.i64.wrap ((k : Int) - 1) = (j1 : Int) := by rw [show (k : Int) - 1 = (j1 : Int) by omega]; exact IntWalk.i64_in _ (by omega)
      have p2 : IntKind.i64.wrap ((k : Int) - 2) = (j0 : Int) := by rw [show (k : Int) - 2 = (j0 : Int) by omega]; exact IntWalk.i64_in _ (by omega)
      have hl1 : (j1 : Int) < (n : Int) := by omega
      have hl0 : (j0 : Int) < (n : Int) := by omega
      obtain ⟨B, hB'⟩ : ∃ z, z = bendTo F k := ⟨_, rfl⟩
      rw [← hB'] at hbt HN ⊢
      generalize F j0 = x at *
      generalize F j1 = y at *
      generalize F k = z at *
      have q1 : IntKind.i64.wrap (2 * y.re) = 2 * y.re := IntWalk.i64_in _ (by omega)
      have q2 : IntKind.i64.wrap (z.re - 2 * y.re) = z.re - 2 * y.re := IntWalk.i64_in _ (by omega)
      have q3 : IntKind.i64.wrap (z.re - 2 * y.re + x.re) = d2 x.re y.re z.re := by unfold d2; exact IntWalk.i64_in _ (by omega)
      have q4 : IntKind.i64.wrap (2 * y.im) = 2 * y.im := IntWalk.i64_in _ (by omega)
      have q5 : IntKind.i64.wrap (z.im - 2 * y.im) = z.im - 2 * y.im := IntWalk.i64_in _ (by omega)
      have q6 : IntKind.i64.wrap (z.im - 2 * y.im + x.im) = d2 x.im y.im z.im := by unfold d2; exact IntWalk.i64_in _ (by omega)
      have q7 : IntKind.i64.wrap (-d2 x.re y.re z.re) = -d2 x.re y.re z.re := IntWalk.i64_in _ (by unfold d2; omega)
      have q8 : IntKind.i64.wrap (-d2 x.im y.im z.im) = -d2 x.im y.im z.im := IntWalk.i64_in _ (by unfold d2; omega)
      have HQ := hide (And.intro q7 q8)
      have HB := hide hB
      clear q7 q8 hB hb xr xi yr yi zr zi hbt hB' hj0 hj1
      go_wp2_with fail
      go_quiet (fail)
      go_wp2_with fail
      go_quiet (fail)
      generalize d2 x.re y.re z.re = u at *
      generalize d2 x.im y.im z.im = v at *
      obtain ⟨q7, q8⟩ := HQ.out
      clear c0 c1 d0 d1 f0 f1 p1 p2 q1 q2 q3 q4 q5 q6 HQ
      have M5 := fun (W : World) => run_max5 W #[3, 3, 3, 3, 3] 3 .i64 .i64 .i64 .i64 .i64 B u (-u) v (-v)
      go_wp2_with fail
      go_roundw
      case rel => exact ⟨k + 1, by omega, .inl (by omega), by go_num, by rw [HN.out], Go.below_drewN HB.out _⟩
      case measure => simp [Go.RowKit.intOf]; omega
    · have hltz : ¬ ((k : Int) < (n : Int)) := by omega
      have HV := hide (show bendTo F k = bendTo F n by
        rcases hk with h | h
        · rw [show k = n by omega]
        · subst h
          rcases n with _ | _ | _ | n
          · rfl
          · rfl
          · rfl
          · omega)
      have HB := hide hB
      clear hB hk
      go_wp2_with fail
      go_ret2
      exact ⟨by rw [hR.out, ← HV.out]; rfl, HB.out⟩
end Go.Proofs.Ytmcgmlhpbpjmgaa
/- The walk of WaveBetween. -/
namespace Go.Proofs.Ytmcgmlhpbpjmgaa
open Go.RowKit
theorem between_part {f : Nat → Int} {u m N : Nat} {B : Int} (hu : 1 ≤ u) (hN : N = m * u + 1) (hf : ∀ j, j + 2 < N → f (j + 2) - 2 * f (j + 1) + f j ≤ B ∧ -(f (j + 2) - 2 * f (j + 1) + f j) ≤ B) {k : Nat} (hk : k < N) :
    2 * (btw (f (k / u * u)) (f ((k / u + 1) * u)) ((k % u : Nat) : Int) (u : Int) - (u : Int) * f k) ≤ (u : Int) * (B * ((k % u : Nat) : Int) * ((u : Int) - ((k % u : Nat) : Int))) ∧ 2 * ((u : Int) * f k - btw (f (k / u * u)) (f ((k / u + 1) * u)) ((k % u : Nat) : Int) (u : Int)) ≤ (u : Int) * (B * ((k % u : Nat) : Int) * ((u : Int) - ((k % u : Nat) : Int))) := by
  have hd := Nat.div_add_mod k u
  have hm := Nat.mod_lt k (show 0 < u by omega)
  obtain ⟨i, hi⟩ : ∃ i, i = k / u := ⟨_, rfl⟩
  obtain ⟨r, hr⟩ : ∃ r, r = k % u := ⟨_, rfl⟩
  rw [← hi, ← hr] at hd ⊢
  rw [← hr] at hm
  rw [Nat.mul_comm u i] at hd
  clear hi hr
  by_cases h0 : r = 0
  · subst h0
    have e : k = i * u := by omega
    rw [← e]
    unfold btw
    simp only [Int.natCast_zero]
    have e1 : f k * ((u : Int) - 0) + f ((i + 1) * u) * 0 = (u : Int) * f k := by grind
    rw [e1]
    simp
  · have him : i + 1 ≤ m := by
      rcases Nat.lt_or_ge i m with h | h
      · exact h
      · have := Nat.mul_le_mul h (Nat.le_refl u)
        omega
    have h1 : (i + 1) * u ≤ m * u := Nat.mul_le_mul him (Nat.le_refl u)
    have h2 : (i + 1) * u = i * u + u := Nat.succ_mul i u
    have hg : ∀ j, j + 2 ≤ u → (fun t => f (i * u + t)) (j + 2) - 2 * (fun t => f (i * u + t)) (j + 1) + (fun t => f (i * u + t)) j ≤ B ∧ -((fun t => f (i * u + t)) (j + 2) - 2 * (fun t => f (i * u + t)) (j + 1) + (fun t => f (i * u + t)) j) ≤ B := fun j hj => by
      have := hf (i * u + j) (by omega)
      exact this
    have k1 := interp_up (s := u) (f := fun t => f (i * u + t)) (B := B) (fun j hj => (hg j hj).1) r (by omega)
    have k2 := interp_down (s := u) (f := fun t => f (i * u + t)) (B := B) (fun j hj => (hg j hj).2) r (by omega)
    simp only [Nat.add_zero] at k1 k2
    rw [h2, ← hd]
    exact ⟨k1, k2⟩
/-- The two comparisons of the law. -/
theorem between_law {F : Nat → Gau} {u m N : Nat} (hu : 1 ≤ u ∧ u ≤ 20) (hN : N = m * u + 1) {k : Nat} (hk : k < N) :
    2 * max ((interF (fun j => F (j * u)) u k).re - (F k).re * (interF (fun j => F (j * u)) u k).den) (-((interF (fun j => F (j * u)) u k).re - (F k).re * (interF (fun j => F (j * u)) u k).den)) ≤ bendTo F N * ((k % u : Nat) : Int) * ((u : Int) - ((k % u : Nat) : Int)) * (interF (fun j => F (j * u)) u k).den
    ∧ 2 * max ((interF (fun j => F (j * u)) u k).im - (F k).im * (interF (fun j => F (j * u)) u k).den) (-((interF (fun j => F (j * u)) u k).im - (F k).im * (interF (fun j => F (j * u)) u k).den)) ≤ bendTo F N * ((k % u : Nat) : Int) * ((u : Int) - ((k % u : Nat) : Int)) * (interF (fun j => F (j * u)) u k).den := by
  have hre := between_part (f := fun j => (F j).re) hu.1 hN (B := bendTo F N) (fun j hj => (bendTo_ge (F := F) N j hj).1) hk
  have him := between_part (f := fun j => (F j).im) hu.1 hN (B := bendTo F N) (fun j hj => (bendTo_ge (F := F) N j hj).2) hk
  obtain ⟨m1, m2, m3⟩ := betP_mul (F (k / u * u)) (F ((k / u + 1) * u)) ((k % u : Nat) : Int) (u : Int)
  obtain ⟨hD, -⟩ := betD_pos (F (k / u * u)) (F ((k / u + 1) * u)) ((k % u : Nat) : Int) (u : Int) (by omega)
  exact ⟨cancelD hD m1 m3 hre.1 hre.2, cancelD hD m2 m3 him.1 him.2⟩
theorem interE_right {L u : Nat} {F : Nat → Gau} (hL : 0 < L ∧ L ≤ 40) (hu : 1 ≤ u ∧ u ≤ 20) (hF : ∀ j, j < L → (F j).Within 10000) : interE L F (u : Int) = 0 := by
  unfold interE
  have h1 : gausE 10000 F L = 0 := by
    unfold gausE
    have : ∀ n, n ≤ L → badE (fun j => (F j).err 10000) n = 0 := by
      intro n
      induction n with
      | zero => intro _; rfl
      | succ n ih =>
        intro hn
        rw [badE_succ (ih (by omega))]
        show unI ((F n).isIn 10000) 2 = 0
        rw [Gau.isIn_iff.2 (hF n (by omega))]
        rfl
    exact this L (Nat.le_refl _)
  rw [h1, show decide (0 < L) = true by simp; omega, show decide ((L : Int) ≤ 40) = true by simp; omega, withinB_iff.2 (show (1 : Int) ≤ (u : Int) ∧ (u : Int) ≤ 20 by omega)]
  rfl
theorem bendE_right {N : Nat} {F : Nat → Gau} (hN : N ≤ 800) (hF : ∀ j, j < N → (F j).Within 10000) : bendE N F = 0 := by
  unfold bendE
  rw [if_neg (by omega)]
  unfold gausE
  have : ∀ n, n ≤ N → badE (fun j => (F j).err 10000) n = 0 := by
    intro n
    induction n with
    | zero => intro _; rfl
    | succ n ih =>
      intro hn
      rw [badE_succ (ih (by omega))]
      show unI ((F n).isIn 10000) 2 = 0
      rw [Gau.isIn_iff.2 (hF n (by omega))]
      rfl
  exact this N (Nat.le_refl _)
set_option maxHeartbeats 1000000 in
theorem size_any (z : Int) (w : World) (hz : -9223372036854775807 ≤ z ∧ z ≤ 9223372036854775807) :
    Calls Try.prog 35 #[.int .i64 z] w fun e w' => e = .returned (.int .i64 (max z (-z))) ∧ w = w' := by
  have q1 : IntKind.i64.wrap (-z) = -z := IntWalk.i64_in _ (by omega)
  clear hz
  go_enter Try.func35, Try.ntmps35
  go_wp2_with fail
  go_ret
  exact ⟨rfl, rfl⟩
set_option maxHeartbeats 16000000 in
set_option maxRecDepth 100000 in
theorem waveBetween_walk (A : Option Addr) (n c : Nat) (F : Nat → Gau) (s : Int) (w : World) (hn9 : n ≤ 9223372036854775807) (hnc : n ≤ c) (hI : GausAt w 0 A n F) :
    Calls Try.prog 6 #[.slice A n c, .int .i64 s] w fun e w' => e = .returned (.bool true) ∧ Below w.heap.size w w' := by
  have HAW := hide (fun W => awake_any W)
  have HI := hide hI
  clear hI
  by_cases h0 : n = 0
  · have t0 : ((n : Int) == 0) = true := by simp; omega
    clear h0 hn9 hnc
    go_enter Try.func6, Try.ntmps6
    go_wp2_with fail
    refine (HAW.out _).mono ?_
    rintro e w1 ⟨rfl, hb1⟩
    go_wp2_with fail
    go_ret
    exact ⟨rfl, hb1⟩
  have t0 : ((n : Int) == 0) = false := by simp; omega
  by_cases h6 : (n : Int) > 60
  · clear h0 hn9 hnc
    go_enter Try.func6, Try.ntmps6
    go_wp2_with fail
    refine (HAW.out _).mono ?_
    rintro e w1 ⟨rfl, hb1⟩
    go_wp2_with fail
    go_ret
    exact ⟨rfl, hb1⟩
  have HEX := hide (fun W (h : GausAt W 0 A n F) => entriesErrR_any A n c F W (by omega) h)
  have HFW := hide (gausE_within (M := 10000) (F := F) (n := n))
  obtain ⟨z, hz⟩ : ∃ z, z = gausE 10000 F n := ⟨_, rfl⟩
  rw [← hz] at HEX HFW
  clear hz
  by_cases hz0 : z = 0
  case neg =>
    have t1 : (z != 0) = true := by simpa using hz0
    clear h0 hn9 hnc HFW hz0
    go_enter Try.func6, Try.ntmps6
    go_wp2_with fail
    refine (HAW.out _).mono ?_
    rintro e w1 ⟨rfl, hb1⟩
    go_wp2_with fail
    refine (HEX.out _ (HI.out.below hb1)).mono ?_
    rintro e w2 ⟨rfl, hb2⟩
    go_wp2_with fail
    go_ret
    exact ⟨rfl, hb1.trans (hb2.mono hb1.size)⟩
  subst hz0
  replace HFW := hide (HFW.out rfl)
  cases hs : withinB s 1 20
  · clear h0 hn9 hnc HFW
    go_enter Try.func6, Try.ntmps6
    go_wp2_with fail
    refine (HAW.out _).mono ?_
    rintro e w1 ⟨rfl, hb1⟩
    go_wp2_with fail
    refine (HEX.out _ (HI.out.below hb1)).mono ?_
    rintro e w2 ⟨rfl, hb2⟩
    go_wp2_with (go_at_call 22; refine (within_any _ _ _ _).mono ?_; rintro e w' ⟨rfl, rfl⟩; rw [hs])
    go_ret
    exact ⟨rfl, hb1.trans (hb2.mono hb1.size)⟩
  obtain ⟨u, rfl⟩ : ∃ u : Nat, s = (u : Int) := ⟨s.toNat, by have := withinB_iff.1 hs; omega⟩
  have hu : 1 ≤ u ∧ u ≤ 20 := by have := withinB_iff.1 hs; omega
  obtain ⟨b, o, rfl, -, hb, -⟩ := HI.out 0 (by omega)
  go_enter Try.func6, Try.ntmps6
  go_wp2_with fail
  refine (HAW.out _).mono ?_
  rintro e w1 ⟨rfl, hb1⟩
  clear HAW
  go_wp2_with fail
  refine (HEX.out _ (HI.out.below hb1)).mono ?_
  rintro e w2 ⟨rfl, hb2⟩
  have hB2 := hb1.trans (hb2.mono hb1.size)
  clear hb1 hb2 HEX
  go_wp2_with (go_at_call 22; refine (within_any _ _ _ _).mono ?_; rintro e w' ⟨rfl, rfl⟩; rw [hs])
  clear hs
  go_loopw [5, 6] (fun v i wr => ∃ k j : Nat, Hid (j = k * u) ∧ Hid (k = 0 ∨ (k - 1) * u < n) ∧ i = .int .i64 (j : Int) ∧ OwnGaus wr w.heap.size v k (fun t => F (t * u)) ∧ Below w.heap.size w wr) (fun _ i _ => n - (Go.RowKit.intOf i).toNat)
  case atStart => exact ⟨0, 0, hide (by simp), hide (.inl rfl), rfl, ownGaus_nil _ _ _, hB2⟩
  case round =>
    clear hB2
    obtain ⟨k, j, HJ, HK, rfl, ho, hB⟩ := hrel
    obtain ⟨wA, rfl⟩ : ∃ x : World, x = wr := ⟨_, rfl⟩
    obtain ⟨O, o9, rfl, ho9, hO⟩ := ownGaus_form ho
    have hBs := hB.size
    by_cases hlt : j < n
    · have hltz : (j : Int) < (n : Int) := by omega
      obtain ⟨b', o', e', -, -, c0, c1⟩ := (HI.out.below hB) j hlt
      injection e' with e'
      injection e' with e1 e2
      subst e1
      subst e2
      have q1 : IntKind.i64.wrap ((j : Int) + (u : Int)) = ((j + u : Nat) : Int) := by rw [show (j : Int) + (u : Int) = ((j + u : Nat) : Int) by omega]; exact IntWalk.i64_in _ (by omega)
      obtain ⟨j2, hj2⟩ : ∃ j2, j2 = j + u := ⟨_, rfl⟩
      rw [← hj2] at q1
      have HJ2 := hide hj2
      have HKJ := hide (show k ≤ j by rw [HJ.out]; exact Nat.le_mul_of_pos_right k (by omega))
      obtain ⟨x, hx⟩ : ∃ x, x = F j := ⟨_, rfl⟩
      rw [← hx] at c0 c1
      have HX := hide hx
      have HO := hide ho
      have HB := hide hB
      clear hx ho hB hO hj2
      go_wp2_with (at_builtin; refine wpList_append_gaus _ rfl (.tmp 42) (.tmp 47) rfl w.heap.size 0 (.slice O k o9) k _ rfl (HO.out.alloc _) (some ⟨_, 0, none⟩) 1 1 (fun _ => x) rfl (GausAt.one (Box.made rfl)) (by have := HKJ.out; omega) (by simp; omega) ?_; intro v' w' h1 hb4)
      go_roundw
      case rel =>
        refine ⟨k + 1, j2, hide ?_, hide (.inr ?_), rfl, h1.congr fun t ht => ?_, (HB.out.alloc hBs _).trans hb4⟩
        · rw [HJ2.out, HJ.out, Nat.succ_mul]
        · rw [Nat.add_sub_cancel, ← HJ.out]; exact hlt
        · unfold catG
          by_cases e : t < k
          · rw [if_pos e]
          · obtain rfl : t = k := by omega
            rw [if_neg e, HX.out, HJ.out]
      case measure => simp [Go.RowKit.intOf]; have := HJ2.out; omega
    · have hltz : ¬ ((j : Int) < (n : Int)) := by omega
      have hk0 : 0 < k := by
        rcases Nat.eq_zero_or_pos k with h | h
        · have := HJ.out; rw [h, Nat.zero_mul] at this; omega
        · exact h
      have hku : (k - 1) * u < n := by
        rcases HK.out with h | h
        · omega
        · exact h
      clear HJ HK
      have HO := hide ho
      have HB := hide hB
      clear ho hB
      by_cases hk40 : (k : Int) > 40
      · clear hk0 hku
        go_wp2_with fail
        go_ret
        exact ⟨rfl, HB.out⟩
      obtain ⟨m, rfl⟩ : ∃ m, k = m + 1 := ⟨k - 1, by omega⟩
      rw [Nat.add_sub_cancel] at hku
      obtain ⟨N1, hN1⟩ : ∃ N1, N1 = m * u := ⟨_, rfl⟩
      rw [← hN1] at hku
      obtain ⟨N, hN⟩ : ∃ N, N = N1 + 1 := ⟨_, rfl⟩
      have p1 : IntKind.i64.wrap (((m + 1 : Nat) : Int) - 1) = (m : Int) := by rw [show ((m + 1 : Nat) : Int) - 1 = (m : Int) by omega]; exact IntWalk.i64_in _ (by omega)
      have p2 : IntKind.i64.wrap ((m : Int) * (u : Int)) = (N1 : Int) := by rw [← Int.natCast_mul, ← hN1]; exact IntWalk.i64_in _ (by omega)
      have p3 : IntKind.i64.wrap ((N1 : Int) + 1) = (N : Int) := by rw [show (N1 : Int) + 1 = (N : Int) by omega]; exact IntWalk.i64_in _ (by omega)
      go_wp2_with fail
      rw [← hN1, ← hN]
      have hNn : N ≤ n := by omega
      have hNm : N = m * u + 1 := by omega
      clear p1 p2 p3
      obtain ⟨w2', rfl⟩ : ∃ x : World, x = wA := ⟨_, rfl⟩
      refine (copyGausses_own (some ⟨b, o, none⟩) N c F _ (by omega) ((HI.out.fewer hNn).below HB.out)).mono ?_
      rintro e w3 ⟨v3, rfl, ho3, hb3⟩
      obtain ⟨X3, x3, rfl, -, hX3⟩ := ownGaus_form ho3
      have hB3 := HB.out.trans (hb3.mono HB.out.size)
      have HX3 := hide (hX3.weak (Nat.zero_le _))
      have HL3 := hide ((HO.out.below hb3).gaus.weak (Nat.zero_le _))
      have hFN : ∀ j, j < N → (F j).Within 10000 := fun j hj => HFW.out j (by omega)
      have hGW : ∀ j, j < m + 1 → ((fun t => F (t * u)) j).Within 10000 := fun j hj => HFW.out (j * u) (by
        have := Nat.mul_le_mul (show j ≤ m by omega) (Nat.le_refl u)
        omega)
      have HV := hide (interE_right (L := m + 1) (F := fun t => F (t * u)) ⟨by omega, by omega⟩ hu hGW)
      have HBE := hide (bendE_right (N := N) (F := F) (by omega) hFN)
      have HBV := hide (show bendV N F = bendTo F N by unfold bendV; rw [if_pos HBE.out])
      have HBL := hide (bendTo_le N hFN)
      have HLAW := hide (fun k (hk : k < N) => between_law (F := F) hu hNm hk)
      have HPD := hide (fun k (hk : k < N) => (show (1 ≤ (interF (fun j => F (j * u)) u k).den ∧ (interF (fun j => F (j * u)) u k).den ≤ 20) ∧ (-400000 ≤ (interF (fun j => F (j * u)) u k).re ∧ (interF (fun j => F (j * u)) u k).re ≤ 400000) ∧ (-400000 ≤ (interF (fun j => F (j * u)) u k).im ∧ (interF (fun j => F (j * u)) u k).im ≤ 400000) from by
        unfold interF
        refine ⟨betP_den _ _ _ _ (by omega), ?_⟩
        have hr := Nat.mod_lt k (show 0 < u by omega)
        have hq : k / u ≤ m := by
          have h1 := Nat.div_add_mod k u
          rcases Nat.lt_or_ge m (k / u) with h | h
          · have h2 := Nat.mul_le_mul (Nat.le_refl u) h
            rw [Nat.mul_comm u (m + 1), Nat.succ_mul] at h2
            omega
          · exact h
        by_cases hq2 : k / u = m
        · have hk0 : k % u = 0 := by
            have h1 := Nat.div_add_mod k u
            rw [hq2, Nat.mul_comm] at h1
            omega
          rw [hk0, Int.natCast_zero, betP_zero _ _ (F (k / u * u))]
          exact betP_parts _ _ _ _ (hGW _ (by omega)) (hGW _ (by omega)) ⟨by omega, by omega⟩ (by omega)
        · exact betP_parts _ _ _ _ (hGW _ (by omega)) (hGW (k / u + 1) (by omega)) ⟨by omega, by omega⟩ (by omega)))
      have HIP := hide (fun W (h : GausAt W 0 O (m + 1) (fun t => F (t * u))) => Interpolated_any O (m + 1) o9 (fun t => F (t * u)) (u : Int) W (by omega) ho9 h)
      rw [HV.out] at HIP
      obtain ⟨I, hI⟩ : ∃ I, I = interF (fun t => F (t * u)) u := ⟨_, rfl⟩
      rw [← hI] at HLAW HPD
      have HIP2 := hide (fun W (h : GausAt W 0 O (m + 1) (fun t => F (t * u))) => (HIP.out W h).mono (R' := fun e w' => ∃ X x, e = .returned (.tuple #[.slice X N x, .int .i64 0]) ∧ PhasAt w' 0 X N I ∧ Below W.heap.size W w') (by
        rintro e w' ⟨v, rfl, hg, hb⟩
        have eN : (m + 1 - 1) * ((u : Nat) : Int).toNat + 1 = N := by rw [Nat.add_sub_cancel, Int.toNat_natCast, hNm]
        rw [eN, Int.toNat_natCast, ← hI] at hg
        rcases hg with ⟨-, X, x, rfl, hX⟩ | ⟨h, -⟩
        · exact ⟨X, x, rfl, hX, hb⟩
        · exact absurd rfl h))
      have HBO := hide (fun X x W (h : GausAt W 0 X N F) => BendOf_any X N x F W (by omega) h)
      rw [HBE.out, HBV.out] at HBO
      obtain ⟨Bd, hBd⟩ : ∃ z, z = bendTo F N := ⟨_, rfl⟩
      rw [← hBd] at HBO HBL HLAW
      have HNM := hide (And.intro hN1 (And.intro hN hNm))
      clear hN1 hN hNm ho3 hX3 hb3 HO HB hGW HV HBE HBV HIP hI hBd hO
      go_wp2_with fail
      refine (HIP2.out _ HL3.out).mono ?_
      rintro e w4 ⟨X4, x4, rfl, hX4, hb4⟩
      have hB4 := hB3.trans (hb4.mono hB3.size)
      have HX3' := hide (HX3.out.below hb4)
      have HP4 := hide hX4
      clear hX4 hb4 hB3 HX3 HIP2 HL3
      go_wp2_with fail
      refine (HBO.out _ _ _ HX3'.out).mono ?_
      rintro e w5 ⟨rfl, hb5⟩
      have hB5 := hB4.trans (hb5.mono hB4.size)
      have HX5 := hide (HX3'.out.below hb5)
      have HP5 := hide (HP4.out.below hb5)
      have tN : ((N : Int) != (N : Int)) = false := by simp
      have tB0 : ¬ Bd < 0 := by have := HBL.out.1; omega
      have tB4 : ¬ Bd > 40000 := by have := HBL.out.2; omega
      clear hb5 hB4 HX3' HP4 HBO
      go_wp2_with fail
      go_loopw [12] (fun iv wr => ∃ k : Nat, k ≤ N ∧ iv = .int .i64 (k : Int) ∧ Below w5.heap.size w5 wr) (fun iv _ => N - (Go.RowKit.intOf iv).toNat)
      case atStart => exact ⟨0, Nat.zero_le _, rfl, Below.refl _ _⟩
      case round =>
        obtain ⟨k, hk, rfl, hB⟩ := hrel
        obtain ⟨wB, rfl⟩ : ∃ x : World, x = wr := ⟨_, rfl⟩
        by_cases hlt : k < N
        · have hltz : (k : Int) < (N : Int) := by omega
          obtain ⟨b4, o4, rfl, -, hbl4, d0, d1, d2'⟩ := (HP5.out.below hB) k hlt
          obtain ⟨b3, o3, rfl, -, hbl3, c0, c1⟩ := (HX5.out.below hB) k hlt
          obtain ⟨l1, l2⟩ := HLAW.out k hlt
          obtain ⟨⟨e0, e1⟩, ⟨e2, e3⟩, e4, e5⟩ := HPD.out k hlt
          obtain ⟨f0, f1⟩ := hFN k hlt
          have hbl := HBL.out
          obtain ⟨r, hr⟩ : ∃ r, r = k % u := ⟨_, rfl⟩
          have hru : r < u := by rw [hr]; exact Nat.mod_lt _ (by omega)
          have kr : ((k : Int)).tmod (u : Int) = (r : Int) := by
            rw [Int.tmod_eq_emod_of_nonneg (by omega), hr]
            exact (Int.natCast_emod k u).symm
          have kw : IntKind.i64.wrap (r : Int) = (r : Int) := IntWalk.i64_in _ (by omega)
          have uz : ¬ (u : Int) = 0 := by omega
          have uz' : ¬ u = 0 := by omega
          rw [← hr] at l1 l2
          generalize I k = y at *
          generalize F k = z at *
          obtain ⟨P1, hP1⟩ : ∃ P, P = z.re * y.den := ⟨_, rfl⟩
          obtain ⟨P2, hP2⟩ : ∃ P, P = z.im * y.den := ⟨_, rfl⟩
          obtain ⟨X1, hX1⟩ : ∃ P, P = Bd * (r : Int) := ⟨_, rfl⟩
          rw [← hP1] at l1
          rw [← hP2] at l2
          rw [← hX1] at l1 l2
          obtain ⟨X2, hX2⟩ : ∃ P, P = X1 * ((u : Int) - (r : Int)) := ⟨_, rfl⟩
          rw [← hX2] at l1 l2
          obtain ⟨X3, hX3⟩ : ∃ P, P = X2 * y.den := ⟨_, rfl⟩
          rw [← hX3] at l1 l2
          have b1 := mul_within (M := 10000) (N := 20) f0 (show -20 ≤ y.den ∧ y.den ≤ 20 by omega)
          have b2 := mul_within (M := 10000) (N := 20) f1 (show -20 ≤ y.den ∧ y.den ≤ 20 by omega)
          have b3' := mul_within (M := 40000) (N := 20) (show -40000 ≤ Bd ∧ Bd ≤ 40000 by omega) (show -20 ≤ (r : Int) ∧ (r : Int) ≤ 20 by omega)
          rw [← hX1] at b3'
          have b4' := mul_within (M := 800000) (N := 20) (show -800000 ≤ X1 ∧ X1 ≤ 800000 by omega) (show -20 ≤ (u : Int) - (r : Int) ∧ (u : Int) - (r : Int) ≤ 20 by omega)
          rw [← hX2] at b4'
          have b5 := mul_within (M := 16000000) (N := 20) (show -16000000 ≤ X2 ∧ X2 ≤ 16000000 by omega) (show -20 ≤ y.den ∧ y.den ≤ 20 by omega)
          rw [← hX3] at b5
          rw [← hP1] at b1
          rw [← hP2] at b2
          have q1 : IntKind.i64.wrap (z.re * y.den) = P1 := by rw [hP1]; exact IntWalk.i64_in _ (by omega)
          have q2 : IntKind.i64.wrap (y.re - P1) = y.re - P1 := IntWalk.i64_in _ (by omega)
          have q3 : IntKind.i64.wrap (z.im * y.den) = P2 := by rw [hP2]; exact IntWalk.i64_in _ (by omega)
          have q4 : IntKind.i64.wrap (y.im - P2) = y.im - P2 := IntWalk.i64_in _ (by omega)
          have q5 : IntKind.i64.wrap (Bd * (r : Int)) = X1 := by rw [hX1]; exact IntWalk.i64_in _ (by omega)
          have q6 : IntKind.i64.wrap ((u : Int) - (r : Int)) = (u : Int) - (r : Int) := IntWalk.i64_in _ (by omega)
          have q7 : IntKind.i64.wrap (X1 * ((u : Int) - (r : Int))) = X2 := by rw [hX2]; exact IntWalk.i64_in _ (by omega)
          have q8 : IntKind.i64.wrap (X2 * y.den) = X3 := by rw [hX3]; exact IntWalk.i64_in _ (by omega)
          have HSZ1 := hide (fun W => size_any (y.re - P1) W (by omega))
          have HSZ2 := hide (fun W => size_any (y.im - P2) W (by omega))
          obtain ⟨S1, hS1⟩ : ∃ S, S = max (y.re - P1) (-(y.re - P1)) := ⟨_, rfl⟩
          obtain ⟨S2, hS2⟩ : ∃ S, S = max (y.im - P2) (-(y.im - P2)) := ⟨_, rfl⟩
          rw [← hS1] at HSZ1 l1
          rw [← hS2] at HSZ2 l2
          have q9 : IntKind.i64.wrap (2 * S1) = 2 * S1 := IntWalk.i64_in _ (by omega)
          have q10 : IntKind.i64.wrap (2 * S2) = 2 * S2 := IntWalk.i64_in _ (by omega)
          have t1 : decide (2 * S1 > X3) = false := decide_eq_false (by omega)
          have t2 : decide (2 * S2 > X3) = false := decide_eq_false (by omega)
          have i1 : withinB y.den 1 20 = true := withinB_iff.2 ⟨e0, e1⟩
          have i2 : withinB y.re (-1000000000) 1000000000 = true := withinB_iff.2 (by omega)
          have i3 : withinB y.im (-1000000000) 1000000000 = true := withinB_iff.2 (by omega)
          have HB := hide hB
          have hBs := hB.size
          have HC := hide (And.intro c0 c1)
          have HKQ := hide (And.intro q1 (And.intro q2 (And.intro q3 (And.intro q4 (And.intro q5 (And.intro q6 (And.intro q7 (And.intro q8 (And.intro q9 q10)))))))))
          clear hB l1 l2 e0 e1 e2 e3 e4 e5 f0 f1 hbl hr hru hP1 hP2 hX1 hX2 hX3 b1 b2 b3' b4' b5 hS1 hS2 q1 q2 q3 q4 q5 q6 q7 q8 q9 q10 c0 c1
          go_upto_region 22 with fail
          obtain ⟨W, hW⟩ : ∃ y' : World, y' = wB.alloc (.cells #[.int .i64 y.re, .int .i64 y.im, .int .i64 y.den] 63) := ⟨_, rfl⟩
          rw [← hW]
          obtain ⟨g, hg⟩ : ∃ g, g = wB.heap.size := ⟨_, rfl⟩
          have bx : Box W g 63 #[.int .i64 y.re, .int .i64 y.im, .int .i64 y.den] := by rw [hW]; exact Box.made hg
          have hAW : Below wB.heap.size wB W := by rw [hW]; (repeat (first | (with_reducible exact Below.refl _ _) | (with_reducible refine Go.below_drewN ?_ _) | (with_reducible refine Below.drew ?_) | (with_reducible refine Below.alloc ?_ (by first | exact Nat.le_refl _ | (simp; done) | (simp; omega) | omega) _) | (with_reducible refine Below.setCell ?_ (by first | exact Nat.le_refl _ | (simp; done) | (simp; omega) | omega) _)))
          have HB1 := hide (HB.out.trans (hAW.mono hBs))
          obtain ⟨c0, c1⟩ := HC.out
          replace c0 := cellBy hAW c0
          replace c1 := cellBy hAW c1
          rw [← hg]
          clear hW hg d0 d1 d2' HB hBs HC hAW kr kw uz uz'
          obtain ⟨y0, y1, y2, -, -, -, hl⟩ := bx.cells3
          go_wp2_with (go_at_call 22; refine (within_any _ _ _ _).mono ?_; rintro e w' ⟨rfl, rfl⟩; first | rw [i1] | rw [i2] | rw [i3])
          obtain ⟨q1, q2, q3, q4, q5, q6, q7, q8, q9, q10⟩ := HKQ.out
          clear i1 i2 i3
          go_quiet ((go_at_call 35; first | exact Calls.quiet_of_same ((HSZ1.out _).mono fun _ _ h => ⟨h.1, h.2.symm⟩) | exact Calls.quiet_of_same ((HSZ2.out _).mono fun _ _ h => ⟨h.1, h.2.symm⟩)))
          clear q1 q2 q3 q4 q5 q6 q7 q8 q9 q10 y0 y1 y2 c0 c1
          go_wp2_with fail
          go_roundw
          case rel => exact ⟨k + 1, by omega, by go_num, Go.below_drewN HB1.out _⟩
          case measure => simp [Go.RowKit.intOf]; omega
        · obtain rfl : k = N := by omega
          have hltz : ¬ ((k : Int) < (k : Int)) := by omega
          have HB := hide (hB5.trans (hB.mono hB5.size))
          clear hB
          go_wp2_with fail
          go_ret
          exact ⟨rfl, HB.out⟩
end Go.Proofs.Ytmcgmlhpbpjmgaa
