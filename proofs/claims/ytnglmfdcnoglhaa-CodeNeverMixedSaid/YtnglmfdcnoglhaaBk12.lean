/- Lemmas: Pf, Pg. -/
import Derived.Test.YtnglmfdcnoglhaaBk07
import Derived.Test.YtnglmfdcnoglhaaBk08
import Derived.Test.YtnglmfdcnoglhaaBk11
set_option linter.unusedVariables false
set_option linter.unusedSimpArgs false
/- Buffers of the call's own: cells, appending, and slices.Clone. -/
namespace Go.Proofs.Ytnglmfdcnoglhaa
open Go.RowKit Go.Shelf Go.Lib
def procCell (T K : Nat → Int) (L : Nat → Nat) (A : Nat → Option Addr) (C : Nat → Nat) (j : Nat) : Value := if j % 3 = 0 then .int .i64 (T (j / 3)) else if j % 3 = 1 then .int .i64 (K (j / 3)) else .slice (A (j / 3)) (L (j / 3)) (C (j / 3))
def procVals (n : Nat) (T K : Nat → Int) (L : Nat → Nat) (A : Nat → Option Addr) (C : Nat → Nat) : List Value := (List.range (n * 3)).map (procCell T K L A C)
def catA {α : Type} (n : Nat) (f g : Nat → α) (j : Nat) : α := if j < n then f j else g (j - n)
theorem procVals_len (n : Nat) (T K : Nat → Int) (L : Nat → Nat) (A : Nat → Option Addr) (C : Nat → Nat) : (procVals n T K L A C).length = n * 3 := by simp [procVals]
theorem procVals_get (n : Nat) (T K : Nat → Int) (L : Nat → Nat) (A : Nat → Option Addr) (C : Nat → Nat) (j : Nat) : (procVals n T K L A C)[j]? = if j < n * 3 then some (procCell T K L A C j) else none := by
  unfold procVals
  by_cases h : j < n * 3
  · rw [if_pos h]; simp [h]
  · rw [if_neg h, List.getElem?_eq_none (by simp; omega)]
theorem procVals_cat (n m : Nat) (T K T' K' : Nat → Int) (L L' : Nat → Nat) (A A' : Nat → Option Addr) (C C' : Nat → Nat) : procVals n T K L A C ++ procVals m T' K' L' A' C' = procVals (n + m) (catA n T T') (catA n K K') (catA n L L') (catA n A A') (catA n C C') := by
  apply List.ext_getElem?
  intro j
  rw [procVals_get]
  by_cases h : j < n * 3
  · rw [List.getElem?_append_left (by rw [procVals_len]; exact h), procVals_get, if_pos h, if_pos (by omega)]
    unfold procCell catA
    rw [if_pos (show j / 3 < n by omega), if_pos (show j / 3 < n by omega), if_pos (show j / 3 < n by omega), if_pos (show j / 3 < n by omega), if_pos (show j / 3 < n by omega)]
  · rw [List.getElem?_append_right (by rw [procVals_len]; omega), procVals_len, procVals_get]
    by_cases h2 : j < (n + m) * 3
    · rw [if_pos (by omega), if_pos h2]
      unfold procCell catA
      rw [if_neg (show ¬ j / 3 < n by omega), if_neg (show ¬ j / 3 < n by omega), if_neg (show ¬ j / 3 < n by omega), if_neg (show ¬ j / 3 < n by omega), if_neg (show ¬ j / 3 < n by omega), show (j - n * 3) % 3 = j % 3 by omega, show (j - n * 3) / 3 = j / 3 - n by omega]
    · rw [if_neg (by omega), if_neg h2]
/-- Buffers at known places: what ProcsAt says, with the slices' own addresses and room. -/
def ProcsIn (w : World) (lo : Nat) (D : Option Addr) (n : Nat) (T K : Nat → Int) (L : Nat → Nat) (A : Nat → Option Addr) (C : Nat → Nat) (S : Nat → Nat → Int) : Prop :=
  ∀ i, i < n → ∃ b o, D = some ⟨b, o, none⟩ ∧ lo ≤ b ∧ b < w.heap.size ∧ w.cell? ⟨b, o + i * 3, none⟩ = some (.int .i64 (T i)) ∧ w.cell? ⟨b, o + i * 3 + 1, none⟩ = some (.int .i64 (K i)) ∧ w.cell? ⟨b, o + i * 3 + 2, none⟩ = some (.slice (A i) (L i) (C i)) ∧ IntsAt w lo (A i) (L i) (S i)
theorem ProcsIn.at_ {w : World} {lo n : Nat} {D : Option Addr} {T K : Nat → Int} {L : Nat → Nat} {A : Nat → Option Addr} {C : Nat → Nat} {S : Nat → Nat → Int} (h : ProcsIn w lo D n T K L A C S) : ProcsAt w lo D n T K L S := fun i hi => by
  obtain ⟨b, o, h1, h2, h3, h4, h5, h6, h7⟩ := h i hi
  exact ⟨b, o, A i, C i, h1, h2, h3, h4, h5, h6, h7⟩
theorem ProcsAt.pick {w : World} {lo n : Nat} {D : Option Addr} {T K : Nat → Int} {L : Nat → Nat} {S : Nat → Nat → Int} (h : ProcsAt w lo D n T K L S) : ∃ A C, ProcsIn w lo D n T K L A C S := by
  have h' : ∀ i, ∃ x : Option Addr × Nat, i < n → ∃ b o, D = some ⟨b, o, none⟩ ∧ lo ≤ b ∧ b < w.heap.size ∧ w.cell? ⟨b, o + i * 3, none⟩ = some (.int .i64 (T i)) ∧ w.cell? ⟨b, o + i * 3 + 1, none⟩ = some (.int .i64 (K i)) ∧ w.cell? ⟨b, o + i * 3 + 2, none⟩ = some (.slice x.1 (L i) x.2) ∧ IntsAt w lo x.1 (L i) (S i) := fun i => by
    by_cases hi : i < n
    · obtain ⟨b, o, Ai, ci, h1, h2, h3, h4, h5, h6, h7⟩ := h i hi
      exact ⟨(Ai, ci), fun _ => ⟨b, o, h1, h2, h3, h4, h5, h6, h7⟩⟩
    · exact ⟨(none, 0), fun h => absurd h hi⟩
  obtain ⟨f, hf⟩ := Classical.axiomOfChoice h'
  exact ⟨fun i => (f i).1, fun i => (f i).2, fun i hi => hf i hi⟩
/-- A slice of buffers of the call's own; its lists of numbers lie in other blocks. -/
def OwnProcs (w : World) (base lo : Nat) (v : Value) (n : Nat) (T K : Nat → Int) (L : Nat → Nat) (A : Nat → Option Addr) (C : Nat → Nat) (S : Nat → Nat → Int) : Prop :=
  w.ownsRow base 55 3 v n (procVals n T K L A C) ∧ ∀ i, i < n → IntsAt w lo (A i) (L i) (S i) ∧ ∀ b o, A i = some ⟨b, o, none⟩ → v.ownBlock ≠ some b ∧ b < w.heap.size
section
variable {w w' : World} {base lo n : Nat} {v : Value} {T K : Nat → Int} {L : Nat → Nat} {A : Nat → Option Addr} {C : Nat → Nat} {S : Nat → Nat → Int}
theorem OwnProcs.nil_ : OwnProcs w base lo (.slice none 0 0) 0 T K L A C S := ⟨World.ownsRow_nil _ _ _ _, fun i h => absurd h (Nat.not_lt_zero i)⟩
theorem OwnProcs.below (h : OwnProcs w base lo v n T K L A C S) (hb : Below w.heap.size w w') : OwnProcs w' base lo v n T K L A C S :=
  ⟨World.ownsRow.kept h.1 (row := none) ⟨hb.os, hb.tape, hb.output, hb.size, fun k hk _ => hb.block k hk⟩ (by cases v.ownBlock <;> simp), fun i hi => ⟨(h.2 i hi).1.below hb, fun b o e => ⟨((h.2 i hi).2 b o e).1, Nat.lt_of_lt_of_le ((h.2 i hi).2 b o e).2 hb.size⟩⟩⟩
theorem OwnProcs.alloc (h : OwnProcs w base lo v n T K L A C S) (o : Obj) : OwnProcs (w.alloc o) base lo v n T K L A C S := h.below ((Below.refl _ _).alloc (Nat.le_refl _) _)
theorem OwnProcs.drew (h : OwnProcs w base lo v n T K L A C S) : OwnProcs w.drew base lo v n T K L A C S := h
theorem OwnProcs.lt (h : OwnProcs w base lo v n T K L A C S) {k : Nat} (hk : v.ownBlock = some k) : base ≤ k ∧ k < w.heap.size := World.ownsRow.lt h.1 k hk
theorem OwnProcs.form (h : OwnProcs w base lo v n T K L A C S) (hlb : lo ≤ base) : ∃ D c, v = .slice D n c ∧ n ≤ c ∧ c ≤ 9223372036854775807 ∧ ProcsIn w lo D n T K L A C S := by
  have hm9 : maxLen ≤ 9223372036854775807 := by decide
  obtain ⟨h1, h2⟩ := h
  rcases h1.2 with ⟨rfl, rfl⟩ | ⟨g, cap, cur, rfl, hb, hg, hnc, hm, -⟩
  · exact ⟨_, _, rfl, Nat.le_refl _, by decide, fun i h => absurd h (Nat.not_lt_zero i)⟩
  · refine ⟨_, _, rfl, hnc, by omega, fun i hi => ⟨g, 0, rfl, by omega, (Array.getElem?_eq_some_iff.1 hg).1, ?_, ?_, ?_, (h2 i hi).1⟩⟩
    · have hc := World.ownsRow.cells h1 (g := g) rfl (i * 3) _ (by rw [procVals_get, if_pos (by omega)])
      rw [Addr.add_lit] at hc
      rw [hc]
      unfold procCell
      rw [if_pos (by omega), show i * 3 / 3 = i by omega]
    · have hc := World.ownsRow.cells h1 (g := g) rfl (i * 3 + 1) _ (by rw [procVals_get, if_pos (by omega)])
      rw [Addr.add_lit] at hc
      rw [Nat.add_assoc, hc]
      unfold procCell
      rw [if_neg (by omega), if_pos (by omega), show (i * 3 + 1) / 3 = i by omega]
    · have hc := World.ownsRow.cells h1 (g := g) rfl (i * 3 + 2) _ (by rw [procVals_get, if_pos (by omega)])
      rw [Addr.add_lit] at hc
      rw [Nat.add_assoc, hc]
      unfold procCell
      rw [if_neg (by omega), if_neg (by omega), show (i * 3 + 2) / 3 = i by omega]
end
theorem OwnProcs.form1 {w : World} {base lo n : Nat} {v : Value} {T K : Nat → Int} {L : Nat → Nat} {A : Nat → Option Addr} {C : Nat → Nat} {S : Nat → Nat → Int} (h : OwnProcs w base lo v n T K L A C S) (hn : 0 < n) : ∃ g c, v = .slice (some ⟨g, 0, none⟩) n c ∧ n ≤ c ∧ c ≤ 9223372036854775807 ∧ base ≤ g ∧ g < w.heap.size := by
  have hm9 : maxLen ≤ 9223372036854775807 := by decide
  obtain ⟨h1, h2⟩ := h
  rcases h1.2 with ⟨rfl, rfl⟩ | ⟨g, cap, cur, rfl, hb, hg, hnc, hm, -⟩
  · exact absurd hn (Nat.lt_irrefl 0)
  · exact ⟨g, cap, rfl, hnc, by omega, hb, (Array.getElem?_eq_some_iff.1 hg).1⟩
theorem OwnProcs.cells {w : World} {base lo n g c : Nat} {T K : Nat → Int} {L : Nat → Nat} {A : Nat → Option Addr} {C : Nat → Nat} {S : Nat → Nat → Int} (h : OwnProcs w base lo (.slice (some ⟨g, 0, none⟩) n c) n T K L A C S) {i : Nat} (hi : i < n) :
    w.cell? ⟨g, i * 3, none⟩ = some (.int .i64 (T i)) ∧ w.cell? ⟨g, i * 3 + 1, none⟩ = some (.int .i64 (K i)) ∧ w.cell? ⟨g, i * 3 + 2, none⟩ = some (.slice (A i) (L i) (C i)) := by
  refine ⟨?_, ?_, ?_⟩
  · have hc := World.ownsRow.cells h.1 (g := g) rfl (i * 3) _ (by rw [procVals_get, if_pos (by omega)])
    rw [Addr.add_lit, Nat.zero_add] at hc
    rw [hc]
    unfold procCell
    rw [if_pos (by omega), show i * 3 / 3 = i by omega]
  · have hc := World.ownsRow.cells h.1 (g := g) rfl (i * 3 + 1) _ (by rw [procVals_get, if_pos (by omega)])
    rw [Addr.add_lit, Nat.zero_add] at hc
    rw [hc]
    unfold procCell
    rw [if_neg (by omega), if_pos (by omega), show (i * 3 + 1) / 3 = i by omega]
  · have hc := World.ownsRow.cells h.1 (g := g) rfl (i * 3 + 2) _ (by rw [procVals_get, if_pos (by omega)])
    rw [Addr.add_lit, Nat.zero_add] at hc
    rw [hc]
    unfold procCell
    rw [if_neg (by omega), if_neg (by omega), show (i * 3 + 2) / 3 = i by omega]
theorem OwnProcs.frozen {w : World} {base lo n g c : Nat} {T K : Nat → Int} {L : Nat → Nat} {A : Nat → Option Addr} {C : Nat → Nat} {S : Nat → Nat → Int} (h : OwnProcs w base lo (.slice (some ⟨g, 0, none⟩) n c) n T K L A C S) (k : Nat) : w.frozen? ⟨g, k, none⟩ = false := World.ownsRow.frozenAt h.1 k
theorem OwnProcs.other {w : World} {base lo n : Nat} {v : Value} {T K : Nat → Int} {L : Nat → Nat} {A : Nat → Option Addr} {C : Nat → Nat} {S : Nat → Nat → Int} (h : OwnProcs w base lo v n T K L A C S) {k : Nat} (o : Nat) (u : Value) (hk : v.ownBlock ≠ some k) (hA : ∀ i, i < n → ∀ b o, A i = some ⟨b, o, none⟩ → b ≠ k) : OwnProcs (w.setCell ⟨k, o, none⟩ u) base lo v n T K L A C S := by
  have hon : w.grownBy (w.setCell ⟨k, o, none⟩ u) (some k) := (Only.refl k w).set_ o u
  exact ⟨World.ownsRow.kept h.1 hon (.inr hk), fun i hi => ⟨(h.2 i hi).1.grown hon fun b o' e e2 => (by injection e2 with e2; exact hA i hi b o' e e2.symm), fun b o' e => ⟨((h.2 i hi).2 b o' e).1, Nat.lt_of_lt_of_le ((h.2 i hi).2 b o' e).2 hon.size⟩⟩⟩
theorem OwnProcs.weak {w : World} {base base' lo n : Nat} {v : Value} {T K : Nat → Int} {L : Nat → Nat} {A : Nat → Option Addr} {C : Nat → Nat} {S : Nat → Nat → Int} (h : OwnProcs w base lo v n T K L A C S) (hb : base' ≤ base) : OwnProcs w base' lo v n T K L A C S :=
  ⟨⟨h.1.1, h.1.2.elim .inl fun ⟨g, cap, cur, e, k, r⟩ => .inr ⟨g, cap, cur, e, Nat.le_trans hb k, r⟩⟩, h.2⟩
theorem procInfo : (Try.prog.info? 55).map (fun i => (i.zero, i.size, i.bytes)) = some (some (.agg #[.int .i64 0, .int .i64 0, .slice none 0 0]), 3, 40) := by kernel_rfl
set_option maxRecDepth 100000 in
theorem run_append_procs (w : World) (ty : TypeId) (base lo : Nat) (v : Value) (n : Nat) (T K : Nat → Int) (L : Nat → Nat) (A : Nat → Option Addr) (C : Nat → Nat) (S : Nat → Nat → Int) (hown : OwnProcs w base lo v n T K L A C S)
    (ad : Addr) (m c : Nat) (T' K' : Nat → Int) (L' : Nat → Nat) (A' : Nat → Option Addr) (C' : Nat → Nat) (S' : Nat → Nat → Int) (hr : ∀ i, i < m → ∃ b o, ad = ⟨b, o, none⟩ ∧ w.cell? ⟨b, o + i * 3, none⟩ = some (.int .i64 (T' i)) ∧ w.cell? ⟨b, o + i * 3 + 1, none⟩ = some (.int .i64 (K' i)) ∧ w.cell? ⟨b, o + i * 3 + 2, none⟩ = some (.slice (A' i) (L' i) (C' i)))
    (hr2 : ∀ i, i < m → IntsAt w lo (A' i) (L' i) (S' i) ∧ ∀ b o, A' i = some ⟨b, o, none⟩ → v.ownBlock ≠ some b ∧ b < w.heap.size) (hnm : n + m ≤ 1000000) (hbase : base ≤ w.heap.size) :
    ∃ v' w', (Builtin.append_ #[34, 34] ty #[v, .slice (some ad) m c]).run Try.prog w = .ok v' w' ∧ OwnProcs w' base lo v' (n + m) (catA n T T') (catA n K K') (catA n L L') (catA n A A') (catA n C C') (catA n S S') ∧ Below base w w' ∧ w.grownBy w' v.ownBlock := by
  obtain ⟨i0, hi, hz0, hz1, hz2⟩ := info_parts procInfo
  obtain ⟨h1, h2⟩ := hown
  obtain ⟨v', w', hrun, hown', hg, -, hblk⟩ := run_append_own_at (P := Try.prog) w base 34 ty 55 i0 (.agg #[.int .i64 0, .int .i64 0, .slice none 0 0]) 3 40 Try.underlying34 hi hz0 hz1 hz2 rfl (by decide) v n _ h1 ad m c (procVals m T' K' L' A' C') (procVals_len _ _ _ _ _ _)
    (fun j u hu => by
      rw [procVals_get] at hu
      split at hu
      · rename_i hj
        injection hu with hu
        subst hu
        obtain ⟨b, o, rfl, c0, c1, c2⟩ := hr (j / 3) (by omega)
        rw [Addr.add_lit]
        unfold procCell
        by_cases e0 : j % 3 = 0
        · rw [if_pos e0, ← c0]; congr 2; omega
        · by_cases e1 : j % 3 = 1
          · rw [if_neg e0, if_pos e1, ← c1]; congr 2; omega
          · rw [if_neg e0, if_neg e1, ← c2]; congr 2; omega
      · cases hu)
    (fun u hu => by
      obtain ⟨j, -, rfl⟩ := List.mem_map.1 hu
      unfold procCell
      split
      · rfl
      · split <;> rfl) (by unfold maxLen; omega) (by omega) hbase
  rw [procVals_cat] at hown'
  refine ⟨v', w', hrun, ⟨hown', fun i hi => ?_⟩, (Below.refl _ _).grown hg hbase (fun k hk => (World.ownsRow.lt h1 k hk).1), hg⟩
  have apart : ∀ (B : Option Addr), (∀ b o, B = some ⟨b, o, none⟩ → v.ownBlock ≠ some b ∧ b < w.heap.size) → ∀ b o, B = some ⟨b, o, none⟩ → v'.ownBlock ≠ some b ∧ b < w'.heap.size := fun B hB b o e => by
    obtain ⟨x1, x2⟩ := hB b o e
    refine ⟨?_, Nat.lt_of_lt_of_le x2 hg.size⟩
    rcases hblk with y | y
    · rw [y]; exact x1
    · rw [y]; intro z; injection z with z; omega
  unfold catA
  by_cases hin : i < n
  · rw [if_pos hin, if_pos hin, if_pos hin]
    exact ⟨(h2 i hin).1.grown hg (fun b o e => ((h2 i hin).2 b o e).1), apart _ (h2 i hin).2⟩
  · rw [if_neg hin, if_neg hin, if_neg hin]
    obtain ⟨k1, k2⟩ := hr2 (i - n) (by omega)
    exact ⟨k1.grown hg (fun b o e => (k2 b o e).1), apart _ k2⟩
theorem wpList_append_procs {ops : Array Oper} {rest : List Oper} {o : Oper} {a : Act} {Q : Exit → Act → World → Prop} (w : World) (hgd : o.guard = none) (s x : Operand)
    (ho : o.op = .call { callee := .builtin .append, args := #[s, x], argTypes := #[34, 34] })
    (base lo : Nat) (v : Value) (n : Nat) (T K : Nat → Int) (L : Nat → Nat) (A : Nat → Option Addr) (C : Nat → Nat) (S : Nat → Nat → Int) (hs : a.eval s = v) (hown : OwnProcs w base lo v n T K L A C S)
    (ad : Addr) (m c : Nat) (T' K' : Nat → Int) (L' : Nat → Nat) (A' : Nat → Option Addr) (C' : Nat → Nat) (S' : Nat → Nat → Int) (hx : a.eval x = .slice (some ad) m c) (hr : ∀ i, i < m → ∃ b o, ad = ⟨b, o, none⟩ ∧ w.cell? ⟨b, o + i * 3, none⟩ = some (.int .i64 (T' i)) ∧ w.cell? ⟨b, o + i * 3 + 1, none⟩ = some (.int .i64 (K' i)) ∧ w.cell? ⟨b, o + i * 3 + 2, none⟩ = some (.slice (A' i) (L' i) (C' i)))
    (hr2 : ∀ i, i < m → IntsAt w lo (A' i) (L' i) (S' i) ∧ ∀ b o, A' i = some ⟨b, o, none⟩ → v.ownBlock ≠ some b ∧ b < w.heap.size) (hnm : n + m ≤ 1000000) (hbase : base ≤ w.heap.size)
    (h : ∀ v' w', OwnProcs w' base lo v' (n + m) (catA n T T') (catA n K K') (catA n L L') (catA n A A') (catA n C C') (catA n S S') → Below base w w' → wpList Try.prog ops Q rest (a.put o.dst v') w') : wpList Try.prog ops Q (o :: rest) a w :=
  wpList_plain hgd fun _ hK => by
    obtain ⟨v', w', hrun, h1, h2, -⟩ := run_append_procs w o.type base lo v n T K L A C S hown ad m c T' K' L' A' C' S' hr hr2 hnm hbase
    unfold Oper.wp execOp
    simp only [ho, resolve, invoke, builtin, Sem.run_bind, Sem.run_pure, Result.andThen_ok, List.map_toArray, List.map_cons, List.map_nil, hs, hx, hrun]
    exact hK _ _ (h v' w' h1 h2)
theorem catA_zero {α : Type} (f g : Nat → α) : catA 0 f g = g := by
  funext j
  unfold catA
  rw [if_neg (Nat.not_lt_zero j), Nat.sub_zero]
theorem OwnInts.empty (w : World) (g : Nat) (hg : g = w.heap.size) (F : Nat → Int) : OwnInts (w.alloc (.cells #[] 3)) w.heap.size (.slice (some ⟨g, 0, none⟩) 0 0) 0 F := by
  subst hg
  exact World.ownsRow_made w #[] 0 (Nat.le_refl _) (by decide) rfl
set_option maxHeartbeats 1000000 in
set_option maxRecDepth 100000 in
theorem cloneInts_any (b o n c : Nat) (F : Nat → Int) (w : World) (hn : n ≤ 100000) (hI : IntsAt w 0 (some ⟨b, o, none⟩) n F) :
    Calls Try.prog 84 #[.slice (some ⟨b, o, none⟩) n c] w fun r w' => ∃ v, r = .returned v ∧ OwnInts w' w.heap.size v n F ∧ Below w.heap.size w w' := by
  have HI := hide (hI.alloc (.cells #[] 3))
  have HE := hide (OwnInts.empty w _ rfl F)
  clear hI
  have hnil := fun (W : World) (b o n c : Nat) => Lib.run_eql_slice_nil (P := Try.prog) W 24 3 (some ⟨b, o, none⟩) n c 0 0 Try.underlying24
  simp only [Option.isNone_some] at hnil
  go_enter Try.func84, Try.ntmps84
  go_wp2_with (at_builtin; refine wpList_append_ints _ rfl (.tmp 5) (.tmp 6) rfl w.heap.size 0 (.slice (some ⟨w.heap.size, 0, none⟩) 0 0) 0 F rfl HE.out (some ⟨b, o, none⟩) n c F rfl HI.out (by omega) (by simp) ?_; intro v' w' h1 hb2)
  go_ret
  refine ⟨_, rfl, ?_, ((Below.refl _ _).alloc (Nat.le_refl _) _).trans hb2⟩
  rw [Nat.zero_add] at h1
  exact h1.congr fun j hj => by unfold catF; rw [if_neg (Nat.not_lt_zero j), Nat.sub_zero]
theorem OwnProcs.empty (w : World) (g : Nat) (hg : g = w.heap.size) (T K : Nat → Int) (L : Nat → Nat) (A : Nat → Option Addr) (C : Nat → Nat) (S : Nat → Nat → Int) : OwnProcs (w.alloc (.cells #[] 55)) w.heap.size 0 (.slice (some ⟨g, 0, none⟩) 0 0) 0 T K L A C S := by
  subst hg
  exact ⟨World.ownsRow_made w #[] 0 (Nat.le_refl _) (by decide) rfl, fun i h => absurd h (Nat.not_lt_zero i)⟩
set_option maxHeartbeats 1000000 in
set_option maxRecDepth 100000 in
theorem cloneProcs_any (D : Option Addr) (n c : Nat) (T K : Nat → Int) (L : Nat → Nat) (A : Nat → Option Addr) (C : Nat → Nat) (S : Nat → Nat → Int) (w : World) (hn0 : 0 < n) (hn : n ≤ 1000) (hL : ∀ i, i < n → 0 < L i) (hI : ProcsIn w 0 D n T K L A C S) :
    Calls Try.prog 83 #[.slice D n c] w fun r w' => ∃ v, r = .returned v ∧ OwnProcs w' w.heap.size 0 v n T K L A C S ∧ Below w.heap.size w w' := by
  obtain ⟨b, o, rfl, -⟩ := hI 0 hn0
  have HR := hide (fun i (hi : i < n) => (by
    obtain ⟨b', o', e, -, h2, h3, h4, h5, -⟩ := hI i hi
    injection e with e
    injection e with e1 e2
    subst e1
    subst e2
    exact ⟨b, o, rfl, (World.cell?_alloc_some _ _ _ (by rw [h3]; rfl)).trans h3, (World.cell?_alloc_some _ _ _ (by rw [h4]; rfl)).trans h4, (World.cell?_alloc_some _ _ _ (by rw [h5]; rfl)).trans h5⟩ :
    ∃ b' o', (⟨b, o, none⟩ : Addr) = ⟨b', o', none⟩ ∧ (w.alloc (.cells #[] 55)).cell? ⟨b', o' + i * 3, none⟩ = some (.int .i64 (T i)) ∧ (w.alloc (.cells #[] 55)).cell? ⟨b', o' + i * 3 + 1, none⟩ = some (.int .i64 (K i)) ∧ (w.alloc (.cells #[] 55)).cell? ⟨b', o' + i * 3 + 2, none⟩ = some (.slice (A i) (L i) (C i))))
  have HR2 := hide (fun i (hi : i < n) => (by
    obtain ⟨b', o', -, -, -, -, -, -, h6⟩ := hI i hi
    refine ⟨h6.alloc _, fun b2 o2 e2 => ?_⟩
    rw [e2] at h6
    have h7 := (h6.block (hL i hi)).2
    exact ⟨fun e => by injection e with e; have e' : w.heap.size = b2 := e; omega, by simp; omega⟩ :
    IntsAt (w.alloc (.cells #[] 55)) 0 (A i) (L i) (S i) ∧ ∀ b2 o2, A i = some ⟨b2, o2, none⟩ → (Value.slice (some ⟨w.heap.size, 0, none⟩) 0 0).ownBlock ≠ some b2 ∧ b2 < (w.alloc (.cells #[] 55)).heap.size))
  have HE := hide (OwnProcs.empty w _ rfl T K L A C S)
  clear hI hL
  have hnil := fun (W : World) (b o n c : Nat) => Lib.run_eql_slice_nil (P := Try.prog) W 34 55 (some ⟨b, o, none⟩) n c 0 0 Try.underlying34
  simp only [Option.isNone_some] at hnil
  go_enter Try.func83, Try.ntmps83
  go_wp2_with (at_builtin; refine wpList_append_procs _ rfl (.tmp 5) (.tmp 6) rfl w.heap.size 0 (.slice (some ⟨w.heap.size, 0, none⟩) 0 0) 0 T K L A C S rfl HE.out ⟨b, o, none⟩ n c T K L A C S rfl HR.out HR2.out (by omega) (by simp) ?_; intro v' w' h1 hb2)
  go_ret
  refine ⟨_, rfl, ?_, ((Below.refl _ _).alloc (Nat.le_refl _) _).trans hb2⟩
  rw [Nat.zero_add, catA_zero, catA_zero, catA_zero, catA_zero, catA_zero, catA_zero] at h1
  exact h1
end Go.Proofs.Ytnglmfdcnoglhaa
/- copyOf: buffers that share no memory. -/
namespace Go.Proofs.Ytnglmfdcnoglhaa
open Go.RowKit Go.Shelf Go.Lib
theorem OwnProcs.setSoft {w : World} {base lo n c g : Nat} {T K : Nat → Int} {L : Nat → Nat} {A : Nat → Option Addr} {C : Nat → Nat} {S : Nat → Nat → Int} (h : OwnProcs w base lo (.slice (some ⟨g, 0, none⟩) n c) n T K L A C S) {j q d : Nat} (hq : g ≠ q) (hqs : q < w.heap.size) (hI : IntsAt w lo (some ⟨q, 0, none⟩) (L j) (S j)) :
    OwnProcs (w.setCell ⟨g, j * 3 + 2, none⟩ (.slice (some ⟨q, 0, none⟩) (L j) d)) base lo (.slice (some ⟨g, 0, none⟩) n c) n T K L (fun i => if i = j then some ⟨q, 0, none⟩ else A i) (fun i => if i = j then d else C i) S := by
  have h1 := (World.ownsRow.stored h.1 (j * 3 + 2) (.slice (some ⟨q, 0, none⟩) (L j) d)).1
  have e : (procVals n T K L A C).set (j * 3 + 2) (.slice (some ⟨q, 0, none⟩) (L j) d) = procVals n T K L (fun i => if i = j then some ⟨q, 0, none⟩ else A i) (fun i => if i = j then d else C i) := by
    apply List.ext_getElem?
    intro k
    rw [List.getElem?_set, procVals_get, procVals_get, procVals_len]
    by_cases e : j * 3 + 2 = k
    · subst e
      rw [if_pos rfl]
      by_cases hk : j * 3 + 2 < n * 3
      · rw [if_pos hk, if_pos hk]
        unfold procCell
        rw [if_neg (by omega), if_neg (by omega), show (j * 3 + 2) / 3 = j by omega]
        simp
      · rw [if_neg hk, if_neg hk]
    · rw [if_neg e]
      by_cases hk : k < n * 3
      · rw [if_pos hk, if_pos hk]
        unfold procCell
        by_cases e0 : k % 3 = 0
        · rw [if_pos e0, if_pos e0]
        · by_cases e1 : k % 3 = 1
          · rw [if_neg e0, if_neg e0, if_pos e1, if_pos e1]
          · have hj : ¬ k / 3 = j := by omega
            rw [if_neg e0, if_neg e0, if_neg e1, if_neg e1]
            simp only [if_neg hj]
      · rw [if_neg hk, if_neg hk]
  rw [e] at h1
  have hon : w.grownBy (w.setCell ⟨g, j * 3 + 2, none⟩ (.slice (some ⟨q, 0, none⟩) (L j) d)) (some g) := (Only.refl g w).set_ (j * 3 + 2) _
  refine ⟨h1, fun i hi => ?_⟩
  obtain ⟨k1, k2⟩ := h.2 i hi
  by_cases e : i = j
  · subst e
    simp only [if_true]
    refine ⟨hI.grown hon fun b o e2 e3 => ?_, fun b o e2 => ?_⟩
    · injection e2 with e2; injection e2 with e2; injection e3 with e3; exact hq (e3.trans e2.symm)
    · injection e2 with e2; injection e2 with e2
      subst e2
      exact ⟨fun e3 => by injection e3 with e3; exact hq e3, Nat.lt_of_lt_of_le hqs hon.size⟩
  · simp only [if_neg e]
    exact ⟨k1.grown hon fun b o e2 => (k2 b o e2).1, fun b o e2 => ⟨(k2 b o e2).1, Nat.lt_of_lt_of_le (k2 b o e2).2 hon.size⟩⟩
theorem OwnProcs.lift {w : World} {base lo n B : Nat} {v : Value} {T K : Nat → Int} {L : Nat → Nat} {A : Nat → Option Addr} {C : Nat → Nat} {S : Nat → Nat → Int} (h : OwnProcs w base lo v n T K L A C S) (hb : ∀ i, i < n → ∀ b o, A i = some ⟨b, o, none⟩ → B ≤ b) : OwnProcs w base B v n T K L A C S :=
  ⟨h.1, fun i hi => ⟨fun k hk => by
    obtain ⟨b, o, e, h1, h2, h3⟩ := (h.2 i hi).1 k hk
    exact ⟨b, o, e, hb i hi b o e, h2, h3⟩, (h.2 i hi).2⟩⟩
set_option maxHeartbeats 8000000 in
set_option maxRecDepth 100000 in
theorem copyOf_any (len : Int) (D : Option Addr) (n c : Nat) (T K : Nat → Int) (L : Nat → Nat) (S : Nat → Nat → Int) (w : World) (hn0 : 0 < n) (hn : n ≤ 1000) (hL : ∀ i, i < n → 0 < L i ∧ L i ≤ 100000) (hI : ProcsAt w 0 D n T K L S) :
    Calls Try.prog 52 #[.agg #[.int .i64 len, .slice D n c]] w fun r w' => ∃ v, r = .returned (.agg #[.int .i64 len, v]) ∧ (∃ A C, OwnProcs w' w.heap.size w.heap.size v n T K L A C S) ∧ Below w.heap.size w w' := by
  obtain ⟨A0, C0, hP⟩ := hI.pick
  have hP2 : ∀ W, Below w.heap.size w W → ProcsIn W 0 D n T K L A0 C0 S := fun W hb i hi => by
    obtain ⟨b, o, h1, h2, h3, h4, h5, h6, h7⟩ := hP i hi
    exact ⟨b, o, h1, h2, Nat.lt_of_lt_of_le h3 hb.size, (hb.cell (p := ⟨b, _, none⟩) h3).trans h4, (hb.cell (p := ⟨b, _, none⟩) h3).trans h5, (hb.cell (p := ⟨b, _, none⟩) h3).trans h6, h7.below hb⟩
  have HP := hide hP2
  have HL := hide hL
  clear hI hP hP2 hL
  go_enter Try.func52, Try.ntmps52
  go_wp2_with fail
  generalize hW : World.alloc (World.alloc w _) _ = W
  have bx : Box W w.heap.size 36 #[.int .i64 len, .slice D n c] := by rw [← hW]; exact (Box.made rfl).alloc _
  have br : Box W (w.heap.size + 1) 36 #[.int .i64 0, .slice none 0 0] := by rw [← hW]; exact Box.made (by simp)
  have hB : Below w.heap.size w W := by rw [← hW]; exact ((Below.refl _ _).alloc (Nat.le_refl _) _).alloc (by simp) _
  have hWz : W.heap.size = w.heap.size + 2 := by rw [← hW]; simp
  clear hW
  obtain ⟨z0, z1, hlz⟩ := bufs_cells bx
  have hBs := hB.size
  have hWs : W.heap.size = w.heap.size + 2 := hWz
  go_wp2_with fail
  refine (cloneProcs_any D n c T K L A0 C0 S _ hn0 hn (fun i hi => (HL.out i hi).1) (HP.out _ hB)).mono ?_
  rintro r w1 ⟨v1, rfl, hown1, hb1⟩
  obtain ⟨g, d1, rfl, hnd1, hd19, hg1, hg2⟩ := hown1.form1 hn0
  have bx1 := bx.below hb1
  have br1 := br.below hb1
  have hB1 := hB.trans (hb1.mono hBs)
  have f1 := bx1.free 1
  have hA0 : ∀ i, i < n → ∀ b o, A0 i = some ⟨b, o, none⟩ → b ≠ w.heap.size ∧ b ≠ w.heap.size + 1 := fun i hi b' o' e => by
    obtain ⟨_, _, -, -, -, -, -, -, h6⟩ := HP.out w (Below.refl _ _) i hi
    rw [e] at h6
    have := (h6.block (HL.out i hi).1).2
    omega
  have hown2 := hown1.other (k := w.heap.size) 1 (.slice (some ⟨g, 0, none⟩) n d1) (fun e => by injection e with e; have e2 : g = _ := e; omega) (fun i hi b' o' e => (hA0 i hi b' o' e).1)
  have HA0 := hide hA0
  clear hA0
  have bx2 : Box (w1.setCell ⟨w.heap.size, 1, none⟩ (.slice (some ⟨g, 0, none⟩) n d1)) w.heap.size 36 #[.int .i64 len, .slice (some ⟨g, 0, none⟩) n d1] := bx1.set_ 1 (.slice (some ⟨g, 0, none⟩) n d1)
  have br2 := br1.other (p := ⟨w.heap.size, 1, none⟩) (by simp) (.slice (some ⟨g, 0, none⟩) n d1)
  have hB2 := hB1.setCell (p := ⟨w.heap.size, 1, none⟩) (by simp) (.slice (some ⟨g, 0, none⟩) n d1)
  have HO2 := hide hown2
  clear z0 z1 hlz hown1 hown2 HP hb1
  obtain ⟨z0, z1, hlz⟩ := bufs_cells bx1
  go_wp2_with fail
  clear z0 z1 hlz f1 bx1 br1 hB1
  generalize w1.setCell ⟨w.heap.size, 1, none⟩ (.slice (some ⟨g, 0, none⟩) n d1) = w2 at *
  go_loopw [3, 11] (fun _ i wr => ∃ j : Nat, j ≤ n ∧ i = .int .i64 j ∧ Hid (∃ A C, OwnProcs wr W.heap.size 0 (.slice (some ⟨g, 0, none⟩) n d1) n T K L A C S ∧ (∀ i, i < n → ∀ b o, A i = some ⟨b, o, none⟩ → b ≠ w.heap.size ∧ b ≠ w.heap.size + 1) ∧ ∀ i, i < j → ∀ b o, A i = some ⟨b, o, none⟩ → w.heap.size ≤ b) ∧ Box wr w.heap.size 36 #[.int .i64 len, .slice (some ⟨g, 0, none⟩) n d1] ∧ Box wr (w.heap.size + 1) 36 #[.int .i64 0, .slice none 0 0] ∧ Below w.heap.size w wr) (fun _ i _ => n - (intOf i).toNat)
  case atStart => exact ⟨0, Nat.zero_le _, rfl, hide ⟨_, _, HO2.out, HA0.out, fun i h => absurd h (Nat.not_lt_zero i)⟩, bx2, br2, hB2⟩
  case round =>
    obtain ⟨j, hj, rfl, HO, bx, br, hB⟩ := hrel
    obtain ⟨z0, z1, hlz⟩ := bufs_cells bx
    by_cases hlt : j < n
    · have hltz : (j : Int) < (n : Int) := by omega
      obtain ⟨A, C, hown, hAn, hAl⟩ := HO.out
      have HAN := hide hAn
      have HAL := hide hAl
      obtain ⟨hl0, hl9⟩ := HL.out j hlt
      have hcell := (hown.cells hlt).2.2
      have hfree := hown.frozen (j * 3 + 2)
      have hIJ := (hown.2 j hlt).1
      obtain ⟨qb, qo, eA, -, -, -⟩ := hIJ 0 hl0
      rw [eA] at hcell hIJ
      have HIJ := hide hIJ
      have hgl := (hown.lt (k := g) rfl).2
      have hgne : ¬ w.heap.size = g := by omega
      have HOW := hide hown
      have HB := hide hB
      clear hown hIJ HO hB eA hAn hAl
      go_wp2_with fail
      refine wp_region_held_drew (S := fun w' => w'.cell? ⟨w.heap.size, 1, none⟩ = some (.slice (some ⟨g, 0, none⟩) n d1)) (by kernel_rfl) z1 (fun hHeld => ?_)
      refine wpAnyH_take (i := 0) (oi := ⟨some 14, _, _, _, _, _⟩) (v := ?_) rfl (by kernel_rfl) (by kernel_rfl) (by kernel_rfl) (fun _ _ _ h => h) (Or.inl ⟨by rfl, ?_⟩) (by assumption) ?_
      rotate_left
      · (intro w' hSw; (try dsimp only at hSw); go_simp <;> (with_reducible rfl))
      try simp only [Act.put, List.setIfInBounds_toArray, List.set_cons_zero, List.set_cons_succ]
      refine wpAnyH_take (i := 1) (oi := ⟨some 15, _, _, _, _, _⟩) (v := ?_) rfl (by kernel_rfl) (by kernel_rfl) (by kernel_rfl) (fun _ _ _ h => h) (Or.inl ⟨by rfl, ?_⟩) (by assumption) ?_
      rotate_left
      · (intro w' hSw; (try dsimp only at hSw); go_simp <;> (with_reducible rfl))
      try simp only [Act.put, List.setIfInBounds_toArray, List.set_cons_zero, List.set_cons_succ]
      refine wpAnyH_take (i := 2) (oi := ⟨some 16, _, _, _, _, _⟩) (v := ?_) rfl (by kernel_rfl) (by kernel_rfl) (by kernel_rfl) (fun _ _ _ h => h) (Or.inl ⟨by rfl, ?_⟩) (by assumption) ?_
      rotate_left
      · (intro w' hSw; (try dsimp only at hSw); go_simp <;> (with_reducible rfl))
      try simp only [Act.put, List.setIfInBounds_toArray, List.set_cons_zero, List.set_cons_succ]
      refine wpAnyH_take (i := 3) (oi := ⟨some 17, _, _, _, _, _⟩) (v := ?_) rfl (by kernel_rfl) (by kernel_rfl) (by kernel_rfl) (fun _ _ _ h => h) (Or.inl ⟨by rfl, ?_⟩) (by assumption) ?_
      rotate_left
      · (intro w' hSw; (try dsimp only at hSw); go_simp <;> (with_reducible rfl))
      try simp only [Act.put, List.setIfInBounds_toArray, List.set_cons_zero, List.set_cons_succ]
      refine wpAnyH_take (i := 4) (oi := ⟨some 18, _, _, _, _, _⟩) (v := ?_) rfl (by kernel_rfl) (by kernel_rfl) (by kernel_rfl) (fun _ _ _ h => h) (Or.inl ⟨by rfl, ?_⟩) (by assumption) ?_
      rotate_left
      · (intro w' hSw; (try dsimp only at hSw); go_simp <;> (with_reducible rfl))
      try simp only [Act.put, List.setIfInBounds_toArray, List.set_cons_zero, List.set_cons_succ]
      refine wpAnyH_take (i := 5) (oi := ⟨some 19, _, _, _, _, _⟩) (v := ?_) rfl (by kernel_rfl) (by kernel_rfl) (by kernel_rfl) (fun _ _ _ h => h) (Or.inl ⟨by rfl, ?_⟩) (by assumption) ?_
      rotate_left
      · (intro w' hSw; (try dsimp only at hSw); go_simp <;> (with_reducible rfl))
      try simp only [Act.put, List.setIfInBounds_toArray, List.set_cons_zero, List.set_cons_succ]
      refine wpAnyH_take (i := 6) (oi := ⟨some 20, _, _, _, _, _⟩) (v := ?_) rfl (by kernel_rfl) (by kernel_rfl) (by kernel_rfl) (fun _ _ _ h => h) (Or.inl ⟨by rfl, ?_⟩) (by assumption) ?_
      rotate_left
      · (intro w' hSw; (try dsimp only at hSw); go_simp <;> (with_reducible rfl))
      try simp only [Act.put, List.setIfInBounds_toArray, List.set_cons_zero, List.set_cons_succ]
      refine wpAnyH_take (i := 7) (oi := ⟨some 21, _, _, _, _, _⟩) (v := ?_) rfl (by kernel_rfl) (by kernel_rfl) (by kernel_rfl) (fun _ _ _ h => h) (Or.inl ⟨by rfl, ?_⟩) (by assumption) ?_
      rotate_left
      · (intro w' hSw; (try dsimp only at hSw); go_simp <;> (with_reducible rfl))
      try simp only [Act.put, List.setIfInBounds_toArray, List.set_cons_zero, List.set_cons_succ]
      refine wpAnyH_ready (rs := [8]) (by kernel_rfl) (by simp) ?_
      refine AllReadyH.cons (o := ⟨some 22, _, _, _, _, _⟩) rfl (fun K' hK => ?_) AllReadyH.nil
      go_simp
      refine hK.out _ _ z1 (fun hHeld2 => ?_)
      clear hK K' hHeld
      try simp only [Act.put, List.setIfInBounds_toArray, List.set_cons_zero, List.set_cons_succ]
      refine wpAnyH_ready (rs := [9]) (by kernel_rfl) (by simp) ?_
      refine AllReadyH.cons (o := ⟨some 23, _, _, _, _, _⟩) rfl (fun K' hK => ?_) AllReadyH.nil
      go_simp
      go_at_call 84
      refine (cloneInts_any qb qo (L j) (C j) (S j) _ hl9 HIJ.out.drew).mono ?_
      rintro r w2 ⟨v2, rfl, hown2, hb2⟩
      obtain ⟨q, dq, rfl, hq1, hq2⟩ := hown2.row hl0
      have hb2' := below_of_drew hb2
      have z1' := (hb2'.cell (p := ⟨w.heap.size, 1, none⟩) hlz).trans z1
      have hc2 := (hb2'.cell (p := ⟨g, j * 3 + 2, none⟩) hgl).trans hcell
      have hf2 := (hb2'.frozen (p := ⟨g, j * 3 + 2, none⟩) hgl).trans hfree
      go_wp2_with fail
      refine hK.out _ _ z1' (fun hHeld3 => ?_)
      clear hK K' hHeld2
      try simp only [Act.put, List.setIfInBounds_toArray, List.set_cons_zero, List.set_cons_succ]
      refine wpAnyH_take (i := 10) (oi := ⟨some 24, _, _, _, _, _⟩) (v := ?_) rfl (by kernel_rfl) (by kernel_rfl) (by kernel_rfl) (fun _ _ _ h => h) (Or.inl ⟨by rfl, ?_⟩) (by assumption) ?_
      rotate_left
      · (intro w' hSw; (try dsimp only at hSw); go_simp <;> (with_reducible rfl))
      try simp only [Act.put, List.setIfInBounds_toArray, List.set_cons_zero, List.set_cons_succ]
      refine wpAnyH_take (i := 11) (oi := ⟨some 25, _, _, _, _, _⟩) (v := ?_) rfl (by kernel_rfl) (by kernel_rfl) (by kernel_rfl) (fun _ _ _ h => h) (Or.inl ⟨by rfl, ?_⟩) (by assumption) ?_
      rotate_left
      · (intro w' hSw; (try dsimp only at hSw); go_simp <;> (with_reducible rfl))
      try simp only [Act.put, List.setIfInBounds_toArray, List.set_cons_zero, List.set_cons_succ]
      refine wpAnyH_ready (rs := [12]) (by kernel_rfl) (by simp) ?_
      refine AllReadyH.cons (o := ⟨none, _, _, _, _, _⟩) rfl (fun K' hK => ?_) AllReadyH.nil
      go_simp
      refine hK.out _ _ ?hz (fun hHeld4 => ?_)
      case hz => exact (World.cell?_setCell_other _ _ ⟨w.heap.size, 1, none⟩ _ (fun e => by injection e with e; exact hgne e.symm)).trans z1'
      clear hK K'
      try simp only [Act.put, List.setIfInBounds_toArray, List.set_cons_zero, List.set_cons_succ]
      refine wpAnyH_done (by kernel_rfl) ?_ _
      have hq2n : g ≠ q := by have : wr.heap.size ≤ q := hq1; omega
      have HQN := hide (show q ≠ w.heap.size ∧ q ≠ w.heap.size + 1 from by have : wr.heap.size ≤ q := hq1; have := br.lt; omega)
      have HQL := hide (show w.heap.size ≤ q from by have : wr.heap.size ≤ q := hq1; have := br.lt; omega)
      have HN := hide ((HOW.out.below hb2').setSoft (j := j) (q := q) (d := dq) hq2n hq2 (hown2.form.elim fun A' h => h.elim fun c' h => (by
        obtain ⟨e, -, hI⟩ := h
        injection e with e1 e2 e3
        rw [← e1] at hI
        exact hI.weak (Nat.zero_le _))))
      have bx3 := (bx.below hb2').other (p := ⟨g, j * 3 + 2, none⟩) (by simpa using hgne) (.slice (some ⟨q, 0, none⟩) (L j) dq)
      have br3 := (br.below hb2').other (p := ⟨g, j * 3 + 2, none⟩) (by simp; omega) (.slice (some ⟨q, 0, none⟩) (L j) dq)
      have hB3 := (HB.out.trans (hb2'.mono HB.out.size)).setCell (p := ⟨g, j * 3 + 2, none⟩) (by simp; omega) (.slice (some ⟨q, 0, none⟩) (L j) dq)
      clear hown2 z0 z1 z1' hc2 hf2 hcell hfree
      go_wp2_with fail
      go_roundw
      case rel => exact ⟨j + 1, by omega, by go_num, hide ⟨_, _, HN.out, fun i hi b o e => by
        by_cases eij : i = j
        · rw [if_pos eij] at e
          injection e with e; injection e with e e'
          subst e
          exact HQN.out
        · rw [if_neg eij] at e
          exact HAN.out i hi b o e, fun i hi b o e => by
        by_cases eij : i = j
        · rw [if_pos eij] at e
          injection e with e; injection e with e e'
          subst e
          exact HQL.out
        · rw [if_neg eij] at e
          exact HAL.out i (by omega) b o e⟩, bx3, br3, hB3⟩
      case measure => simp [intOf]; omega
    · obtain rfl : j = n := by omega
      have fr0 := br.free 0
      have fr1 := br.free 1
      obtain ⟨r0, r1, hlr⟩ := bufs_cells br
      obtain ⟨A, C, hown, hAn, hAl⟩ := HO.out
      have HOW := hide (((hown.other (k := w.heap.size + 1) 0 (.int .i64 len) (fun e => by injection e with e; have e2 : g = _ := e; omega) (fun i hi b o e => (hAn i hi b o e).2)).other (k := w.heap.size + 1) 1 (.slice (some ⟨g, 0, none⟩) j d1) (fun e => by injection e with e; have e2 : g = _ := e; omega) (fun i hi b o e => (hAn i hi b o e).2)).weak (show w.heap.size ≤ W.heap.size by omega))
      have HB := hide hB
      have HAL := hide hAl
      clear hown HO hB hAn hAl
      go_wp2_with fail
      refine bodyPost_ret (v := .agg #[.int .i64 len, .slice (some ⟨g, 0, none⟩) j d1]) ?_ rfl ⟨_, rfl, ⟨A, C, ?_⟩, ?_⟩
      · have hz := (br.set_ 0 (.int .i64 len)).set_ 1 (.slice (some ⟨g, 0, none⟩) j d1)
        have z0 := hz.at_ 0
        have z1 := hz.at_ 1
        simp at z0 z1
        simp [results, Try.results52, go_sem, z0, z1]
      · exact HOW.out.lift HAL.out
      · exact (HB.out.setCell (by simp) _).setCell (by simp) _
end Go.Proofs.Ytnglmfdcnoglhaa
