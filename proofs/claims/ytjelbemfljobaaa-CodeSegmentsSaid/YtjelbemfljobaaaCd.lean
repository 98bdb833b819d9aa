/- A row of numbers that the call made: appended to. base: Ints, CopyInts, AreBits. -/
import Derived.Test.YtjelbemfljobaaaCc
import Derived.Maps.AppendAt
namespace Go.Proofs.Ytjelbemfljobaaa
open Go.RowKit

def intCells (n : Nat) (F : Nat → Int) : List Value := (List.range n).map fun j => Value.int .i64 (F j)
theorem intCells_len (n : Nat) (F : Nat → Int) : (intCells n F).length = n := by simp [intCells]
theorem intCells_get (n : Nat) (F : Nat → Int) (j : Nat) : (intCells n F)[j]? = if j < n then some (.int .i64 (F j)) else none := by
  unfold intCells
  by_cases h : j < n <;> simp [h]
theorem intCells_congr {n : Nat} {F G : Nat → Int} (h : ∀ j, j < n → F j = G j) : intCells n F = intCells n G := by
  unfold intCells
  exact List.map_congr_left fun j hj => by rw [h j (List.mem_range.1 hj)]
/-- F, and then G. -/
def catF (n : Nat) (F G : Nat → Int) : Nat → Int := fun j => if j < n then F j else G (j - n)
theorem intCells_cat (n m : Nat) (F G : Nat → Int) : intCells n F ++ intCells m G = intCells (n + m) (catF n F G) := by
  apply List.ext_getElem?
  intro j
  rw [List.getElem?_append, intCells_len, intCells_get, intCells_get, intCells_get]
  unfold catF
  by_cases h1 : j < n
  · rw [if_pos h1, if_pos h1, if_pos (by omega), if_pos h1]
  · rw [if_neg h1]
    by_cases h2 : j - n < m
    · rw [if_pos h2, if_pos (by omega), if_neg h1]
    · rw [if_neg h2, if_neg (by omega)]

/-- A slice of the call's own, of n numbers F, in a block that is not ahead of base. -/
def OwnInts (w : World) (base : Nat) (v : Value) (n : Nat) (F : Nat → Int) : Prop := w.ownsRow base 3 1 v n (intCells n F)
theorem OwnInts.nil_ (w : World) (base : Nat) (F : Nat → Int) : OwnInts w base (.slice none 0 0) 0 F := World.ownsRow_nil _ _ _ _
theorem OwnInts.form {w : World} {base n : Nat} {v : Value} {F : Nat → Int} (h : OwnInts w base v n F) : ∃ A c, v = .slice A n c ∧ n ≤ c ∧ IntsAt w base A n F := by
  rcases h.2 with ⟨rfl, hx⟩ | ⟨g, cap, cur, rfl, hb, hg, hnc, hm, hsz, htake⟩
  · subst hx
    exact ⟨_, _, rfl, Nat.le_refl _, IntsAt.nil_⟩
  · refine ⟨_, _, rfl, hnc, fun k hk => ⟨g, 0, rfl, hb, (Array.getElem?_eq_some_iff.1 hg).1, ?_⟩⟩
    have := World.ownsRow.cells h (g := g) rfl k (Value.int .i64 (F k)) (by rw [intCells_get, if_pos hk])
    rw [Addr.add_lit] at this
    exact this
theorem OwnInts.drew {w : World} {base n : Nat} {v : Value} {F : Nat → Int} (h : OwnInts w base v n F) : OwnInts w.drew base v n F := h
theorem OwnInts.drewN {w : World} {base n : Nat} {v : Value} {F : Nat → Int} (h : OwnInts w base v n F) (q : Nat) : OwnInts (w.drewN q) base v n F := h
theorem OwnInts.alloc {w : World} {base n : Nat} {v : Value} {F : Nat → Int} (h : OwnInts w base v n F) (o : Obj) : OwnInts (w.alloc o) base v n F := World.ownsRow.alloc h o
theorem OwnInts.below {w w' : World} {base n : Nat} {v : Value} {F : Nat → Int} (h : OwnInts w base v n F) (hb : Below w.heap.size w w') : OwnInts w' base v n F :=
  World.ownsRow.kept h (row := none) ⟨hb.os, hb.tape, hb.output, hb.size, fun k hk _ => hb.block k hk⟩ (by cases v.ownBlock <;> simp)
theorem OwnInts.congr {w : World} {base n : Nat} {v : Value} {F G : Nat → Int} (h : OwnInts w base v n F) (e : ∀ j, j < n → F j = G j) : OwnInts w base v n G := by
  unfold OwnInts at h ⊢
  rwa [← intCells_congr e]
theorem OwnInts.gave {w w' : World} {n : Nat} {v : Value} {F : Nat → Int} (h : OwnInts w' w.heap.size v n F) (hb : Below w.heap.size w w') : GaveInts w n F v w' := by
  obtain ⟨A, c, rfl, hc, hI⟩ := h.form
  exact ⟨A, c, rfl, hc, hI, hb⟩

theorem intInfo : (Try.prog.info? 3).map (fun i => (i.zero, i.size, i.bytes)) = some (some (.int .i64 0), 1, 8) := by kernel_rfl

set_option maxRecDepth 100000 in
theorem run_append_ints (w : World) (ty : TypeId) (base lo : Nat) (v : Value) (n : Nat) (F : Nat → Int) (hown : OwnInts w base v n F)
    (A : Option Addr) (m c : Nat) (G : Nat → Int) (hr : IntsAt w lo A m G) (hnm : n + m ≤ 1000000000) (hbase : base ≤ w.heap.size) :
    ∃ v' w', (Builtin.append_ #[24, 24] ty #[v, .slice A m c]).run Try.prog w = .ok v' w' ∧ OwnInts w' base v' (n + m) (catF n F G) ∧ Below base w w' := by
  obtain ⟨i0, hi, hz0, hz1, hz2⟩ := info_parts intInfo
  cases A with
  | none =>
    have hm : m = 0 := by
      rcases Nat.eq_zero_or_pos m with h0 | h0
      · exact h0
      · obtain ⟨b, o, e, -⟩ := hr 0 h0
        cases e
    subst hm
    have hrun : (Builtin.append_ #[24, 24] ty #[v, .slice none 0 c]).run Try.prog w = .ok v w := by
      rcases hown.2 with ⟨rfl, -⟩ | ⟨g, cap, cur, rfl, -, -, hnc, -⟩
      · simp [Builtin.append_, run_underlying Try.underlying24, sizeOf, typeInfo, hi, Builtin.lenOf, Builtin.firstCells]
      · simp [Builtin.append_, run_underlying Try.underlying24, sizeOf, typeInfo, hi, Builtin.lenOf, Builtin.firstCells, hnc, storeCells]
    exact ⟨v, w, hrun, OwnInts.congr (F := F) hown fun j hj => by unfold catF; rw [if_pos (show j < n by omega)], Below.refl _ _⟩
  | some ad =>
    obtain ⟨v', w', hrun, hown', hg, -, -⟩ := run_append_own_at (P := Try.prog) w base 24 ty 3 i0 (.int .i64 0) 1 8 Try.underlying24 hi hz0 hz1 hz2 rfl (by decide) v n _ hown ad m c (intCells m G) (by rw [intCells_len, Nat.mul_one])
      (fun j u hu => by
        rw [intCells_get] at hu
        split at hu
        · rename_i hj
          obtain ⟨b, o, e, -, -, hc⟩ := hr j hj
          injection e with e
          subst e
          injection hu with hu
          subst hu
          rw [Addr.add_lit]
          exact hc
        · cases hu)
      (fun u hu => by
        obtain ⟨j, -, rfl⟩ := List.mem_map.1 hu
        rfl) (by unfold maxLen; omega) (by omega) hbase
    rw [intCells_cat] at hown'
    exact ⟨v', w', hrun, hown', (Below.refl _ _).grown hg hbase (fun k hk => (World.ownsRow.lt hown k hk).1)⟩

theorem wp_append_ints {o : Oper} {a : Act} {K : Act → World → Prop} {Q : Exit → Act → World → Prop} (w : World) (s x : Operand)
    (ho : o.op = .call { callee := .builtin .append, args := #[s, x], argTypes := #[24, 24] })
    (base lo : Nat) (v : Value) (n : Nat) (F : Nat → Int) (hs : a.eval s = v) (hown : OwnInts w base v n F)
    (A : Option Addr) (m c : Nat) (G : Nat → Int) (hx : a.eval x = .slice A m c) (hr : IntsAt w lo A m G) (hnm : n + m ≤ 1000000000) (hbase : base ≤ w.heap.size)
    (h : ∀ v' w', OwnInts w' base v' (n + m) (catF n F G) → Below base w w' → K (a.put o.dst v') w') : o.wp Try.prog a w K Q := by
  obtain ⟨v', w', hrun, h1, h2⟩ := run_append_ints w o.type base lo v n F hown A m c G hr hnm hbase
  unfold Oper.wp execOp
  simp only [ho, resolve, invoke, builtin, Sem.run_bind, Sem.run_pure, Result.andThen_ok, List.map_toArray, List.map_cons, List.map_nil, hs, hx, hrun]
  exact h v' w' h1 h2

theorem wpList_append_ints {ops : Array Oper} {rest : List Oper} {o : Oper} {a : Act} {Q : Exit → Act → World → Prop} (w : World) (hgd : o.guard = none) (s x : Operand)
    (ho : o.op = .call { callee := .builtin .append, args := #[s, x], argTypes := #[24, 24] })
    (base lo : Nat) (v : Value) (n : Nat) (F : Nat → Int) (hs : a.eval s = v) (hown : OwnInts w base v n F)
    (A : Option Addr) (m c : Nat) (G : Nat → Int) (hx : a.eval x = .slice A m c) (hr : IntsAt w lo A m G) (hnm : n + m ≤ 1000000000) (hbase : base ≤ w.heap.size)
    (h : ∀ v' w', OwnInts w' base v' (n + m) (catF n F G) → Below base w w' → wpList Try.prog ops Q rest (a.put o.dst v') w') : wpList Try.prog ops Q (o :: rest) a w :=
  wpList_plain hgd fun _ hK => wp_append_ints w s x ho base lo v n F hs hown A m c G hx hr hnm hbase fun v' w' h1 h2 => hK _ _ (h v' w' h1 h2)

theorem step_append_ints {ops : Array Oper} {o : Oper} {a : Act} {K : Act → World → Prop} {Q : Exit → Act → World → Prop} {E : Prop} (w : World) (hgd : o.guard = none) (s x : Operand)
    (ho : o.op = .call { callee := .builtin .append, args := #[s, x], argTypes := #[24, 24] })
    (base lo : Nat) (v : Value) (n : Nat) (F : Nat → Int) (hs : a.eval s = v) (hown : OwnInts w base v n F)
    (A : Option Addr) (m c : Nat) (G : Nat → Int) (hx : a.eval x = .slice A m c) (hr : IntsAt w lo A m G) (hnm : n + m ≤ 1000000000) (hbase : base ≤ w.heap.size)
    (h : ∀ v' w', OwnInts w' base v' (n + m) (catF n F G) → Below base w w' → K (a.put o.dst v') w') :
    if Region.wanted o (yielded ops a.tmps) = true then Oper.wp Try.prog o a w K Q else E := by
  have hw : Region.wanted o (yielded ops a.tmps) = true := by simp [Region.wanted, hgd]
  rw [if_pos hw]
  exact wp_append_ints w s x ho base lo v n F hs hown A m c G hx hr hnm hbase h

/-- One new number behind a new block of one cell. -/
theorem IntsAt.one (w : World) (lo : Nat) (x : Int) (t : TypeId) (h : lo ≤ w.heap.size) : IntsAt (w.alloc (.cells #[.int .i64 x] t)) lo (some ⟨w.heap.size, 0, none⟩) 1 (fun _ => x) := fun k hk => by
  have hb : Box (w.alloc (.cells #[.int .i64 x] t)) w.heap.size t #[.int .i64 x] := Box.made rfl
  obtain rfl : k = 0 := by omega
  exact ⟨_, _, rfl, h, hb.lt, hb.at_ 0⟩

def intsB (n : Nat) (F : Nat → Int) (m : Nat) (G : Nat → Int) : Bool := n == m && (List.range n).all fun k => F k == G k
theorem intsB_iff {n m : Nat} {F G : Nat → Int} : intsB n F m G = true ↔ n = m ∧ ∀ k, k < n → F k = G k := by simp [intsB]

set_option maxHeartbeats 1000000 in
theorem ints_any (A C : Option Addr) (n m c d : Nat) (F G : Nat → Int) (w : World) (hn : n ≤ 100000) (hm : m ≤ 100000) (hF : IntsAt w 0 A n F) (hG : IntsAt w 0 C m G) :
    Calls Try.prog 19 #[.slice A n c, .slice C m d] w fun e w' => e = .returned (.bool (intsB n F m G)) ∧ ∃ q, w' = w.drewN q := by
  by_cases hnm : n = m
  · subst hnm
    have HF := hide hF
    have HG := hide hG
    clear hF hG
    go_enter Try.func19, Try.ntmps19
    go_wp2
    go_loopw [5] (fun i wr => ∃ k q : Nat, k ≤ n ∧ i = .int .i64 k ∧ wr = w.drewN q ∧ Hid (∀ j, j < k → F j = G j)) (fun i _ => n - (intOf i).toNat)
    case atStart => exact ⟨0, 0, Nat.zero_le _, rfl, rfl, hide fun j h => absurd h (Nat.not_lt_zero _)⟩
    case round =>
      obtain ⟨k, q, hk, rfl, rfl, HZ⟩ := hrel
      by_cases hlt : k < n
      · obtain ⟨b, o, rfl, -, hb, hcell⟩ := HF.out k hlt
        obtain ⟨b', o', rfl, -, hb', hcell'⟩ := HG.out k hlt
        have hltz : (k : Int) < (n : Int) := by omega
        by_cases he : F k = G k
        · have HE := hide he
          rw [he] at hcell
          clear he
          go_wp2
          go_quiet (fail)
          go_wp2
          go_roundw
          case rel =>
            exact ⟨k + 1, _, by omega, by go_num, rfl, hide fun j hj => by
              rcases Nat.lt_or_ge j k with h | h
              · exact HZ.out j h
              · obtain rfl : j = k := by omega
                exact HE.out⟩
          case measure => simp [intOf]; omega
        · have he' : (F k != G k) = true := by simpa using he
          have HE := hide (show intsB n F n G = false from by
            rw [← Bool.not_eq_true, intsB_iff]
            exact fun h => he (h.2 k hlt))
          clear he
          go_wp2
          go_quiet (fail)
          go_wp2
          go_ret
          exact ⟨ret_bool HE.out.symm, _, World.drewN_drewN _ _ _⟩
      · obtain rfl : k = n := by omega
        go_wp2
        go_ret
        exact ⟨ret_bool (Eq.symm (intsB_iff.2 ⟨rfl, HZ.out⟩)), _, rfl⟩
  · have he' : ((n : Int) != (m : Int)) = true := by simp; omega
    have HE := hide (show intsB n F m G = false from by
      rw [← Bool.not_eq_true, intsB_iff]
      exact fun h => hnm h.1)
    clear hnm hF hG
    go_enter Try.func19, Try.ntmps19
    go_wp2
    go_ret
    exact ⟨ret_bool HE.out.symm, 0, rfl⟩

end Go.Proofs.Ytjelbemfljobaaa
