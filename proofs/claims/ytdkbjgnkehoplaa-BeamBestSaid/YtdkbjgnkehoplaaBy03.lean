/- Lemmas: Ej, Wb, Wc, Va, E0, E1. -/
import Derived.Lib.AppendZeros
import Derived.Great.Walk
import Derived.Great.Ranges
import Derived.Deep.RegionHeld3
import Derived.Test.YtdkbjgnkehoplaaBy01
import Derived.Test.YtdkbjgnkehoplaaBy02
set_option linter.unusedVariables false
set_option linter.unusedSimpArgs false
/- exploring: Grow, Concat, CopyInts -/
namespace Go.Proofs.Ytdkbjgnkehoplaa
open Go.RowKit Go.Lib
set_option maxHeartbeats 1000000 in
theorem copyInts_any (A : Option Addr) (n c : Nat) (F : Nat → Int) (w : World) (hn : n ≤ 100000000) (hI : IntsAt w 0 A n F) :
    Calls Try.prog 72 #[.slice A n c] w fun e w' => ∃ v, e = .returned v ∧ GaveInts w n F v w' := by
  go_enter Try.func72, Try.ntmps72
  go_wp2_with (at_builtin; refine wpList_append_ints _ rfl (.tmp 3) (.tmp 4) rfl w.heap.size 0 (.slice (some ⟨w.heap.size, 0, none⟩) 0 0) 0 F rfl (World.ownsRow_made w #[] 0 (Nat.le_refl _) (by unfold maxLen; omega) rfl) A n c F rfl (hI.alloc _) (by omega) (by simp) ?_; intro v' w' h1 hb1)
  go_ret
  have hB : Below w.heap.size w w' := ((Below.refl _ _).alloc (Nat.le_refl _) _).trans hb1
  rw [Nat.zero_add] at h1
  exact ⟨_, rfl, (h1.congr fun j _ => by simp [catF]).gave hB⟩
theorem wpList_grow_ints {ops : Array Oper} {rest : List Oper} {o : Oper} {a : Act} {Q : Exit → Act → World → Prop} (w : World) (hgd : o.guard = none) (s x : Operand)
    (ho : o.op = .call { callee := .builtin .append, args := #[s, x], argTypes := #[27, 3] })
    (n : Nat) (h0 : 0 < n) (hn : n ≤ 1000000000) (hs : a.eval s = .slice none 0 0) (hx : a.eval x = .int .i64 (n : Int))
    (h : ∀ cap w', n ≤ cap → cap ≤ maxLen → OwnInts w' w.heap.size (.slice (some ⟨w.heap.size, 0, none⟩) 0 cap) 0 (fun _ => 0) → Below w.heap.size w w' →
      wpList Try.prog ops Q rest (a.put o.dst (.slice (some ⟨w.heap.size, 0, none⟩) n cap)) w') : wpList Try.prog ops Q (o :: rest) a w := by
  obtain ⟨i0, hi, hz0, hz1, hz2⟩ := info_parts intInfo
  have hrun := fun ty => run_append_nil_zeros (P := Try.prog) w 27 3 ty 3 i0 (.int .i64 0) .i64 .i64 Try.underlying27 Try.underlying3 hi hz0 n h0 (by omega) (by omega) (by rw [hz2]; omega)
  refine wpList_plain hgd fun K hK => ?_
  unfold Oper.wp execOp
  simp only [ho, resolve, invoke, builtin, Sem.run_bind, Sem.run_pure, Result.andThen_ok, List.map_toArray, List.map_cons, List.map_nil, hs, hx, hrun]
  have hge := grownCap_ge w n 0 3
  have hle := grownCap_le_maxLen w n 0 3 (by unfold maxLen; omega)
  refine hK _ _ (h _ _ hge hle ?_ ?_)
  · exact World.ownsRow_made w.drew _ (grownCap w n 0 3) (Nat.le_refl _) hle (by
      rw [Array.size_append, size_zeroCells, size_zeroCells]
      show n * 1 + (grownCap w n 0 3 - n) * 1 = _
      omega)
  · exact (Below.refl _ _).drew.alloc (Nat.le_refl _) _

end Go.Proofs.Ytdkbjgnkehoplaa
/- modulo, eighthsError, identityError of the code. -/
namespace Go.Proofs.Ytdkbjgnkehoplaa
open Go.RowKit
theorem tmod_facts (n : Int) (d : Nat) (h0 : 0 < d) : -(d : Int) < n.tmod d ∧ n.tmod d < d ∧ (n.tmod d + d).tmod d = n % d := by
  have hle : -(d : Int) < n.tmod d ∧ n.tmod d < d := by
    by_cases hn : 0 ≤ n
    · rw [Int.tmod_eq_emod_of_nonneg hn]
      have := Int.emod_nonneg n (show (d : Int) ≠ 0 by omega)
      have := Int.emod_lt_of_pos n (show (0 : Int) < d by omega)
      omega
    · have e := Int.neg_tmod (-n) d
      rw [Int.neg_neg] at e
      rw [e, Int.tmod_eq_emod_of_nonneg (show 0 ≤ -n by omega)]
      have := Int.emod_nonneg (-n) (show (d : Int) ≠ 0 by omega)
      have := Int.emod_lt_of_pos (-n) (show (0 : Int) < d by omega)
      omega
  refine ⟨hle.1, hle.2, ?_⟩
  rw [Int.tmod_eq_emod_of_nonneg (by omega)]
  have h3 := Int.mul_tdiv_add_tmod n d
  obtain ⟨r, hr⟩ : ∃ r, r = n.tmod d := ⟨_, rfl⟩
  rw [← hr] at h3 ⊢
  have e2 : n = r + d * (n.tdiv d) := by omega
  rw [Int.add_emod_right]
  conv => rhs; rw [e2]
  rw [Int.add_mul_emod_self_left]
end Go.Proofs.Ytdkbjgnkehoplaa
/- Structs of four numbers in memory; turned, times. -/
namespace Go.Proofs.Ytdkbjgnkehoplaa
open Go.RowKit
theorem Box.put4 {w : World} {b : Nat} {t : TypeId} {p0 p1 p2 p3 : Value} (h : Box w b t #[p0, p1, p2, p3]) (u0 u1 u2 u3 : Value) : Box ((((w.setCell ⟨b, 0, none⟩ u0).setCell ⟨b, 1, none⟩ u1).setCell ⟨b, 2, none⟩ u2).setCell ⟨b, 3, none⟩ u3) b t #[u0, u1, u2, u3] := by
  have := (((h.set_ 0 u0).set_ 1 u1).set_ 2 u2).set_ 3 u3
  simpa using this
theorem Box.cells4 {w : World} {b : Nat} {t : TypeId} {p0 p1 p2 p3 : Value} (h : Box w b t #[p0, p1, p2, p3]) :
    w.cell? ⟨b, 0, none⟩ = some p0 ∧ w.cell? ⟨b, 1, none⟩ = some p1 ∧ w.cell? ⟨b, 2, none⟩ = some p2 ∧ w.cell? ⟨b, 3, none⟩ = some p3 ∧ w.frozen? ⟨b, 0, none⟩ = false ∧ w.frozen? ⟨b, 1, none⟩ = false ∧ w.frozen? ⟨b, 2, none⟩ = false ∧ w.frozen? ⟨b, 3, none⟩ = false ∧ b < w.heap.size :=
  ⟨h.at_ 0, h.at_ 1, h.at_ 2, h.at_ 3, h.free 0, h.free 1, h.free 2, h.free 3, h.lt⟩
theorem Box.other4 {w : World} {b c : Nat} {t : TypeId} {cs : Array Value} (h : Box w b t cs) (hn : b ≠ c) (u0 u1 u2 u3 : Value) : Box ((((w.setCell ⟨c, 0, none⟩ u0).setCell ⟨c, 1, none⟩ u1).setCell ⟨c, 2, none⟩ u2).setCell ⟨c, 3, none⟩ u3) b t cs :=
  (((h.other (p := ⟨c, 0, none⟩) hn u0).other (p := ⟨c, 1, none⟩) hn u1).other (p := ⟨c, 2, none⟩) hn u2).other (p := ⟨c, 3, none⟩) hn u3
theorem Below.put4 {B c : Nat} {w W : World} (h : Below B w W) (hc : B ≤ c) (u0 u1 u2 u3 : Value) : Below B w ((((W.setCell ⟨c, 0, none⟩ u0).setCell ⟨c, 1, none⟩ u1).setCell ⟨c, 2, none⟩ u2).setCell ⟨c, 3, none⟩ u3) :=
  (((h.setCell hc u0).setCell hc u1).setCell hc u2).setCell hc u3
end Go.Proofs.Ytdkbjgnkehoplaa
/- Arrays of 31 numbers, and of eight numbers of four parts: a whole block stored, a whole block loaded. -/
namespace Go.Proofs.Ytdkbjgnkehoplaa
open Go.RowKit

theorem setCells_row (b : Nat) (t : TypeId) : ∀ (l : List Value) (o : Nat) (w : World) (cs : Array Value), Box w b t cs → o + l.length ≤ cs.size →
    ∃ cs' : Array Value, Box (w.setCells b o l) b t cs' ∧ cs'.size = cs.size ∧ (∀ i, cs'[i]? = if o ≤ i ∧ i < o + l.length then l[i - o]? else cs[i]?) ∧ Only b w (w.setCells b o l)
  | [], o, w, cs, h, _ => ⟨cs, h, rfl, fun i => by rw [if_neg (by simp <;> omega)], Only.refl _ _⟩
  | v :: r, o, w, cs, h, hl => by
    obtain ⟨cs', h1, h2, h3, h4⟩ := setCells_row b t r (o + 1) (w.setCell ⟨b, o, none⟩ v) (cs.setIfInBounds o v) (h.set_ o v) (by simp at hl ⊢; omega)
    refine ⟨cs', h1, by simpa using h2, fun i => ?_, ((Only.refl _ _).set_ _ _).trans h4⟩
    rw [h3 i]
    simp only [List.length_cons] at hl ⊢
    by_cases e : i = o
    · subst e
      rw [if_neg (by omega), if_pos (by omega), Nat.sub_self]
      simp [Array.getElem?_setIfInBounds]
      omega
    · by_cases e2 : o + 1 ≤ i ∧ i < o + 1 + r.length
      · rw [if_pos e2, if_pos (by omega), show i - o = (i - (o + 1)) + 1 by omega, List.getElem?_cons_succ]
      · rw [if_neg e2, if_neg (by omega), Array.getElem?_setIfInBounds]
        rw [if_neg (by omega)]

section
variable {P : Program}
/-- A value of as many cells as a block has is stored into it: the block holds the value's cells; nothing else has turned. -/
theorem wpList_store_block {ops : Array Oper} {rest : List Oper} {op : Oper} {a : Act} {w : World} {Q : Exit → Act → World → Prop} (hgd : op.guard = none) (ty : TypeId) (x y : Operand) (ho : op.op = .store ty x y)
    (b : Nat) (t : TypeId) (n : Nat) (f0 f : Nat → Value) (cells : Array Value) (hx : a.eval x = .pointer (some ⟨b, 0, none⟩)) (hy : a.eval y = .agg cells)
    (hb : w.rowIs b t n f0) (hc : cells.size = n) (hi : (P.info? ty).map (·.size) = some n) (h1 : cells.all (·.oneCell') = true) (hf : ∀ i, i < n → cells[i]? = some (f i))
    (h : ∀ W, W.rowIs b t n f → Only b w W → wpList P ops Q rest (a.put op.dst undef) W) : wpList P ops Q (op :: rest) a w := by
  obtain ⟨cs, hbx, hs, -⟩ := hb
  have hb : Box w b t cs := hbx
  obtain ⟨cs', g1, g2, g3, g4⟩ := setCells_row b t cells.toList 0 w cs hb (by simp; omega)
  refine wpList_store_mid hgd ty x y ho b 0 cells hx hy (fun j hj => ⟨?_, hb.free _⟩) (by rw [hi, hc]) h1 (h _ ⟨cs', g1, by omega, fun i hi' => ?_⟩ g4)
  · rw [hb.at_, Array.getElem?_eq_getElem (by omega)]
    rfl
  · rw [g3 i, if_pos (by simp; omega)]
    simpa using hf i hi'
end

theorem Only.row {b c : Nat} {t : TypeId} {n : Nat} {f : Nat → Value} {a w : World} (h : Only b a w) (hr : a.rowIs c t n f) (hn : c ≠ b) : w.rowIs c t n f :=
  hr.of_block (h.block c hr.lt (fun e => hn (by injection e)))
theorem below_behind {w w1 : World} {o : Obj} (h : Below (w.alloc o).heap.size (w.alloc o) w1) : Below w.heap.size w w1 := ((Below.refl _ _).alloc (Nat.le_refl _) o).trans (h.mono (by simp))
def listF (l : List Int) (k : Nat) : Int := l.getD k 0
theorem IntsAt.of_list {w : World} {lo g : Nat} {t : TypeId} (l : List Int) (n : Nat) (hn : n = l.length) (h : Box w g t (l.map (Value.int .i64)).toArray) (hl : lo ≤ g) : IntsAt w lo (some ⟨g, 0, none⟩) n (listF l) := fun k hk => by
  subst hn
  refine ⟨g, 0, rfl, hl, h.lt, ?_⟩
  rw [Nat.zero_add, h.at_ k, List.getElem?_toArray, List.getElem?_map, List.getElem?_eq_getElem hk]
  simp [listF, hk]
/-- A whole row loaded. -/
theorem range_of_row {W : World} {b : Nat} {t : TypeId} {n : Nat} {f : Nat → Value} (hr : W.rowIs b t n f) : W.rangeAt b 0 ((List.range n).map f) := fun j v hv => by
  rw [List.getElem?_map] at hv
  by_cases hj : j < n
  · rw [List.getElem?_range hj] at hv
    rw [Nat.zero_add, hr.cell hj]
    exact hv
  · rw [List.getElem?_eq_none (by simpa using hj)] at hv
    cases hv
theorem results_cell1 {fn : Func} {p : Tmp} {ty : TypeId} (h : fn.results = #[.cell p ty]) (tmps : Array Value) (P : Program) (w : World) :
    (results fn tmps).run P w = ((asAddr (tmps.getD p undef)).run P w).andThen fun a w₁ => (loadVar ty a).run P w₁ := by
  simp only [results, h]
  simp [Sem.run_bind, Result.andThen]

/-- What an array of 31 numbers holds. -/
def arrF (S : Nat → Int) (j : Nat) : Value := .int .i64 (S j)
def arr31 (S : Nat → Int) : Array Value := ((List.range 31).map (arrF S)).toArray
theorem arr31_size (S : Nat → Int) : (arr31 S).size = 31 := by simp [arr31]
theorem arr31_at (S : Nat → Int) (i : Nat) (h : i < 31) : (arr31 S)[i]? = some (arrF S i) := by
  rw [arr31, List.getElem?_toArray, List.getElem?_map, List.getElem?_range h]
  rfl
theorem arr31_one (S : Nat → Int) : (arr31 S).all (·.oneCell') = true := by
  rw [Array.all_eq_true_iff_forall_mem]
  intro v hv
  obtain ⟨i, _, rfl⟩ := List.mem_map.1 (List.mem_toArray.1 hv)
  rfl
end Go.Proofs.Ytdkbjgnkehoplaa
/- Common lemmas: errors of lists, firstWrong of numbers, a store of a whole small array, numbers times powers of i in floats. -/
namespace Go.Proofs.Ytdkbjgnkehoplaa
open Go.RowKit Go.Great
theorem badE_none {g : Nat → Int} : ∀ {n : Nat}, badE g n = 0 → ∀ i, i < n → g i = 0
  | 0, _, i, hi => absurd hi (Nat.not_lt_zero i)
  | n + 1, h, i, hi => by
    unfold badE at h
    by_cases h0 : badE g n = 0
    · rw [if_pos h0] at h
      rcases Nat.lt_or_ge i n with h1 | h1
      · exact badE_none h0 i h1
      · obtain rfl : i = n := by omega
        exact h
    · rw [if_neg h0] at h; exact absurd h h0
theorem firstE_none2 {a : Int} {r : List Int} (h : firstE (a :: r) = 0) : a = 0 ∧ firstE r = 0 := by
  rw [firstE] at h
  by_cases ha : a = 0
  · rw [if_pos ha] at h; exact ⟨ha, h⟩
  · rw [if_neg ha] at h; exact absurd h ha
theorem unI_none {b : Bool} {e : Int} (he : e ≠ 0) (h : unI b e = 0) : b = true := by
  unfold unI at h
  cases b
  · exact absurd h (by simpa using he)
  · rfl
set_option maxHeartbeats 2000000 in
theorem firstWrong_ints (g : Nat) (lb : Array Value) (eg : ∀ args w, (callFunc g args).run Try.prog w = .ok (.enter g args) w) (p : Int → Int) (A : Option Addr) (n c : Nat) (F : Nat → Int) (w : World)
    (hn : n ≤ 100000) (hI : IntsAt w 0 A n F) (hp : ∀ (x : Int) W, Below w.heap.size w W → Calls Try.prog g (#[.int .i64 x] ++ lb) W fun e w' => e = .returned (.int .i64 (p x)) ∧ Below W.heap.size W w') :
    Calls Try.prog 121 #[.slice A n c, .func (.func g) #[] lb] w fun e w' => e = .returned (.tuple #[.int .i64 (badI (fun j => p (F j)) n : Nat), .int .i64 (badE (fun j => p (F j)) n)]) ∧ Below w.heap.size w w' := by
  have HP := hide hp
  have HI := hide hI
  clear hp hI
  go_enter Try.func121, Try.ntmps121
  go_wp2_with fail
  go_loopg [11] n (fun gg s wr => ∃ k : Nat, k ≤ n ∧ n - k ≤ gg ∧ s = .int .i64 (k : Int) ∧ Hid (badE (fun j => p (F j)) k = 0) ∧ Below w.heap.size w wr)
  case atStart => exact ⟨0, Nat.zero_le _, by omega, rfl, hide rfl, Below.refl _ _⟩
  case round =>
    obtain ⟨k, hk, hg, rfl, HZ, hB⟩ := hrel
    obtain ⟨wA, rfl⟩ : ∃ x : World, x = wr := ⟨_, rfl⟩
    have hBs := hB.size
    by_cases hlt : k < n
    · have hltz : (k : Int) < (n : Int) := by omega
      obtain ⟨b, o, rfl, -, hb, c0⟩ := (HI.out.below hB) k hlt
      have HQ := hide (show p (F k) ≠ 0 → badE (fun j => p (F j)) n = p (F k) ∧ badI (fun j => p (F j)) n = k from fun h => ⟨badE_at (g := fun j => p (F j)) HZ.out h n hlt, badI_at (g := fun j => p (F j)) HZ.out h n hlt⟩)
      have HN := hide (show p (F k) = 0 → badE (fun j => p (F j)) (k + 1) = 0 from fun h => by rw [badE_succ HZ.out]; exact h)
      generalize F k = x at *
      have HC := hide (fun W hW => HP.out x W hW)
      generalize p x = r at *
      have hcall := HC.out wA hB
      by_cases hr : r = 0
      · have HN2 := hide (HN.out hr)
        subst hr
        clear HQ HN
        go_wp2_with (go_at_fn g; refine hcall.mono ?_; rintro e w2 ⟨rfl, hb2⟩)
        go_roundg (n - (k + 1))
        case measure => omega
        case rel => exact ⟨k + 1, by omega, by omega, by go_num, HN2, hB.trans (hb2.mono hB.size)⟩
      · have t1 : (r != 0) = true := by simpa using hr
        have HQ2 := hide (HQ.out hr)
        clear HQ HN hr
        go_wp2_with (go_at_fn g; refine hcall.mono ?_; rintro e w2 ⟨rfl, hb2⟩)
        go_ret2
        exact ⟨by rw [HQ2.out.1, HQ2.out.2]; rfl, hB.trans (hb2.mono hB.size)⟩
    · obtain rfl : k = n := by omega
      go_wp2_with fail
      go_ret2
      exact ⟨by rw [HZ.out, badI_zero HZ.out]; rfl, hB⟩
theorem wpList_store_box {ops : Array Oper} {rest : List Oper} {op : Oper} {a : Act} {w : World} {Q : Exit → Act → World → Prop} (hgd : op.guard = none) (ty : TypeId) (x y : Operand) (ho : op.op = .store ty x y)
    (b : Nat) (cs cells : Array Value) (hx : a.eval x = .pointer (some ⟨b, 0, none⟩)) (hy : a.eval y = .agg cells) (hb : Box w b ty cs) (hs : cs.size = cells.size) (hi : (Try.prog.info? ty).map (·.size) = some cells.size) (h1 : cells.all (·.oneCell') = true)
    (h : ∀ W, Box W b ty cells → Only b w W → wpList Try.prog ops Q rest (a.put op.dst undef) W) : wpList Try.prog ops Q (op :: rest) a w := by
  obtain ⟨cs', g1, g2, g3, g4⟩ := setCells_row b ty cells.toList 0 w cs hb (by simp [hs])
  have e : cs' = cells := Array.ext_getElem? fun i => by
    rw [g3 i]
    by_cases hi : i < cells.size
    · rw [if_pos (by simp; omega)]
      simp
    · rw [if_neg (by simp; omega), Array.getElem?_eq_none (by omega), Array.getElem?_eq_none (by omega)]
  subst e
  refine wpList_store_mid hgd ty x y ho b 0 cs' hx hy (fun j hj => ⟨?_, hb.free _⟩) hi h1 (h _ g1 g4)
  rw [hb.at_, Array.getElem?_eq_getElem (by omega)]
  rfl
theorem four_cells (a b c d : Value) (h : a.oneCell' = true) (h1 : b.oneCell' = true) (h2 : c.oneCell' = true) (h3 : d.oneCell' = true) : (#[a, b, c, d] : Array Value).all (·.oneCell') = true := by
  rw [Array.all_eq_true_iff_forall_mem]
  intro v hv
  simp at hv
  rcases hv with rfl | rfl | rfl | rfl <;> assumption
def cosI (q : Nat) : Int := if q = 0 then 1 else if q = 2 then -1 else 0
def sinI (q : Nat) : Int := if q = 1 then 1 else if q = 3 then -1 else 0
def cosB (q : Nat) : Nat := if q = 0 then 4607182418800017408 else if q = 2 then 13830554455654793216 else 0
def sinB (q : Nat) : Nat := if q = 1 then 4607182418800017408 else if q = 3 then 13830554455654793216 else 0
theorem cos_whole (q : Nat) : Whole (cosB q) (cosI q) := by
  unfold cosB cosI
  by_cases h0 : q = 0
  · rw [if_pos h0, if_pos h0]; exact whole_one
  · rw [if_neg h0, if_neg h0]
    by_cases h2 : q = 2
    · rw [if_pos h2, if_pos h2]; exact whole_minus
    · rw [if_neg h2, if_neg h2]; exact whole_zero
theorem sin_whole (q : Nat) : Whole (sinB q) (sinI q) := by
  unfold sinB sinI
  by_cases h0 : q = 1
  · rw [if_pos h0, if_pos h0]; exact whole_one
  · rw [if_neg h0, if_neg h0]
    by_cases h2 : q = 3
    · rw [if_pos h2, if_pos h2]; exact whole_minus
    · rw [if_neg h2, if_neg h2]; exact whole_zero
/-- A number times a power of i. -/
def itm (x : Gau) (q : Nat) : Gau := ⟨x.re * cosI q - x.im * sinI q, x.re * sinI q + x.im * cosI q⟩
theorem unit4 {q : Nat} (h : q < 4) : (cosI q = 1 ∧ sinI q = 0) ∨ (cosI q = 0 ∧ sinI q = 1) ∨ (cosI q = -1 ∧ sinI q = 0) ∨ (cosI q = 0 ∧ sinI q = -1) := by
  obtain rfl | rfl | rfl | rfl : q = 0 ∨ q = 1 ∨ q = 2 ∨ q = 3 := by omega
  all_goals decide
theorem itm_within {x : Gau} {M : Int} {q : Nat} (hq : q < 4) (h : x.Within M) : (itm x q).Within M := by
  obtain ⟨h1, h2⟩ := h
  unfold itm
  rcases unit4 hq with ⟨e1, e2⟩ | ⟨e1, e2⟩ | ⟨e1, e2⟩ | ⟨e1, e2⟩ <;> rw [e1, e2] <;> constructor <;> (simp only; omega)
theorem abs_lt {a M : Int} (h : -M ≤ a ∧ a ≤ M) (hM : M < 9007199254740992) : a.natAbs < 2 ^ 53 := by
  have e : (2 : Nat) ^ 53 = 9007199254740992 := by decide
  rw [e]
  omega
theorem power_cell (q : Nat) (hq : q < 4) : (#[.complex .f64 4607182418800017408 0, .complex .f64 0 4607182418800017408, .complex .f64 13830554455654793216 0, .complex .f64 0 13830554455654793216] : Array Value)[q]? = some (.complex .f64 (cosB q) (sinB q)) := by
  obtain rfl | rfl | rfl | rfl : q = 0 ∨ q = 1 ∨ q = 2 ∨ q = 3 := by omega
  all_goals rfl
end Go.Proofs.Ytdkbjgnkehoplaa
/- within, firstWrong and itemsError of numbers in a range, stepError, CheckBeam, beamError of the code. -/
namespace Go.Proofs.Ytdkbjgnkehoplaa
open Go.RowKit
theorem Box.c1 {w : World} {b : Nat} {t : TypeId} {x : Value} (h : Box w b t #[x]) : w.cell? ⟨b, 0, none⟩ = some x ∧ w.frozen? ⟨b, 0, none⟩ = false ∧ b < w.heap.size := ⟨h.at_ 0, h.free 0, h.lt⟩
theorem Box.c2 {w : World} {b : Nat} {t : TypeId} {x y : Value} (h : Box w b t #[x, y]) : w.cell? ⟨b, 0, none⟩ = some x ∧ w.cell? ⟨b, 1, none⟩ = some y ∧ w.frozen? ⟨b, 0, none⟩ = false ∧ w.frozen? ⟨b, 1, none⟩ = false ∧ b < w.heap.size := ⟨h.at_ 0, h.at_ 1, h.free 0, h.free 1, h.lt⟩
theorem Box.putT {w : World} {b : Nat} {t : TypeId} {p0 p1 p2 : Value} (h : Box w b t #[p0, p1, p2]) (u0 u1 u2 : Value) : Box (((w.setCell ⟨b, 0, none⟩ u0).setCell ⟨b, 1, none⟩ u1).setCell ⟨b, 2, none⟩ u2) b t #[u0, u1, u2] := by
  have := ((h.set_ 0 u0).set_ 1 u1).set_ 2 u2
  simpa using this
theorem Box.cellsT {w : World} {b : Nat} {t : TypeId} {p0 p1 p2 : Value} (h : Box w b t #[p0, p1, p2]) :
    w.cell? ⟨b, 0, none⟩ = some p0 ∧ w.cell? ⟨b, 1, none⟩ = some p1 ∧ w.cell? ⟨b, 2, none⟩ = some p2 ∧ w.frozen? ⟨b, 0, none⟩ = false ∧ w.frozen? ⟨b, 1, none⟩ = false ∧ w.frozen? ⟨b, 2, none⟩ = false ∧ b < w.heap.size :=
  ⟨h.at_ 0, h.at_ 1, h.at_ 2, h.free 0, h.free 1, h.free 2, h.lt⟩
theorem Below.putT {B c : Nat} {w W : World} (h : Below B w W) (hc : B ≤ c) (u0 u1 u2 : Value) : Below B w (((W.setCell ⟨c, 0, none⟩ u0).setCell ⟨c, 1, none⟩ u1).setCell ⟨c, 2, none⟩ u2) :=
  ((h.setCell hc u0).setCell hc u1).setCell hc u2
theorem firstError_box (b n : Nat) (es : List Int) (t : TypeId) (w : World) (hn : es.length = n) (h9 : n ≤ 100) (hb : Box w b t (es.map (Value.int .i64)).toArray) :
    Calls Try.prog 67 #[.slice (some ⟨b, 0, none⟩) n n] w fun x w' => x = .returned (.int .i64 (firstE es)) ∧ w = w' :=
  firstError_any b n es n w hn h9 fun j hj => by
    have := hb.at_ j
    rw [this, List.getElem?_toArray, List.getElem?_map, List.getElem?_eq_getElem hj]
    simp [hj]
def inE (lo hi x : Int) : Int := unI (withinB x lo hi) 2
set_option maxHeartbeats 1000000 in
theorem within1_any (x lo hi : Int) (b1 b2 : Nat) (w : World) (h1 : w.cell? ⟨b1, 0, none⟩ = some (.int .i64 lo)) (h2 : w.cell? ⟨b2, 0, none⟩ = some (.int .i64 hi)) :
    Calls Try.prog 122 #[.int .i64 x, .pointer (some ⟨b1, 0, none⟩), .pointer (some ⟨b2, 0, none⟩)] w fun e w' => e = .returned (.int .i64 (inE lo hi x)) ∧ w = w' := by
  have HE := hide (show unI (withinB x lo hi) 2 = inE lo hi x from rfl)
  go_enter Try.func122, Try.ntmps122
  go_wp2_with (first | (go_at_call 99; refine (isWithin_any _ _ _ _).mono ?_; rintro e w' ⟨rfl, rfl⟩) | (go_at_call 70; refine (unless_any _ _ _).mono ?_; rintro e w' ⟨rfl, rfl⟩))
  go_ret
  exact ⟨by rw [HE.out]; rfl, rfl⟩
set_option maxHeartbeats 1000000 in
theorem within_clo (lo hi : Int) (w : World) :
    Calls Try.prog 78 #[.int .i64 lo, .int .i64 hi] w fun e w' => e = .returned (.func (.func 122) #[] #[.pointer (some ⟨w.heap.size, 0, none⟩), .pointer (some ⟨w.heap.size + 1, 0, none⟩)]) ∧ w'.cell? ⟨w.heap.size, 0, none⟩ = some (.int .i64 lo) ∧ w'.cell? ⟨w.heap.size + 1, 0, none⟩ = some (.int .i64 hi) ∧ Below w.heap.size w w' := by
  go_enter Try.func78, Try.ntmps78
  go_wp2_with fail
  have h1 : Box (w.alloc (.cells #[.int .i64 lo] 3)) w.heap.size 3 #[.int .i64 lo] := Box.made rfl
  have h2 : Box ((w.alloc (.cells #[.int .i64 lo] 3)).alloc (.cells #[.int .i64 hi] 3)) (w.heap.size + 1) 3 #[.int .i64 hi] := Box.made (by simp)
  have c1 := (h1.alloc (.cells #[.int .i64 hi] 3)).at_ 0
  have c2 := h2.at_ 0
  go_ret
  exact ⟨rfl, c1, c2, by (repeat (first | (with_reducible exact Below.refl _ _) | (with_reducible refine Go.below_drewN ?_ _) | (with_reducible refine Below.drew ?_) | (with_reducible refine Below.alloc ?_ (by first | exact Nat.le_refl _ | (simp; done) | (simp; omega) | omega) _) | (with_reducible refine Below.setCell ?_ (by first | exact Nat.le_refl _ | (simp; done) | (simp; omega) | omega) _)))⟩
theorem firstWrong_within (lo hi : Int) (A : Option Addr) (n c b1 b2 : Nat) (F : Nat → Int) (w : World) (hn : n ≤ 100000) (hI : IntsAt w 0 A n F) (h1 : w.cell? ⟨b1, 0, none⟩ = some (.int .i64 lo)) (h2 : w.cell? ⟨b2, 0, none⟩ = some (.int .i64 hi)) :
    Calls Try.prog 121 #[.slice A n c, .func (.func 122) #[] #[.pointer (some ⟨b1, 0, none⟩), .pointer (some ⟨b2, 0, none⟩)]] w fun e w' => e = .returned (.tuple #[.int .i64 (badI (fun j => inE lo hi (F j)) n : Nat), .int .i64 (badE (fun j => inE lo hi (F j)) n)]) ∧ Below w.heap.size w w' := by
  have l1 := World.block_lt_of_cell? w _ h1
  have l2 := World.block_lt_of_cell? w _ h2
  simp only at l1 l2
  exact firstWrong_ints 122 #[.pointer (some ⟨b1, 0, none⟩), .pointer (some ⟨b2, 0, none⟩)] (enters_of Try.func122 (by kernel_rfl) rfl) (inE lo hi) A n c F w hn hI (fun x W hW => (within1_any x lo hi b1 b2 W ((hW.cell (p := ⟨b1, 0, none⟩) l1).trans h1) ((hW.cell (p := ⟨b2, 0, none⟩) l2).trans h2)).mono (fun _ _ h => ⟨h.1, h.2 ▸ Below.refl _ _⟩))
set_option maxHeartbeats 1000000 in
theorem itemsError_within (lo hi : Int) (A : Option Addr) (n c b1 b2 : Nat) (F : Nat → Int) (w : World) (hn : n ≤ 100000) (hI : IntsAt w 0 A n F) (h1 : w.cell? ⟨b1, 0, none⟩ = some (.int .i64 lo)) (h2 : w.cell? ⟨b2, 0, none⟩ = some (.int .i64 hi)) :
    Calls Try.prog 77 #[.slice A n c, .func (.func 122) #[] #[.pointer (some ⟨b1, 0, none⟩), .pointer (some ⟨b2, 0, none⟩)]] w fun e w' => e = .returned (.int .i64 (badE (fun j => inE lo hi (F j)) n)) ∧ Below w.heap.size w w' := by
  have HX := hide (firstWrong_within lo hi A n c b1 b2 F w hn hI h1 h2)
  clear hI h1 h2
  go_enter Try.func77, Try.ntmps77
  go_wp2_with (go_at_call 121; refine HX.out.mono ?_; rintro e w' ⟨rfl, hb1⟩)
  go_ret
  exact ⟨rfl, hb1⟩
def stepE (n : Int) : Int := unI (withinB n 0 7) 2
set_option maxHeartbeats 1000000 in
theorem stepError_any (n : Int) (w : World) :
    Calls Try.prog 100 #[.int .i64 n] w fun e w' => e = .returned (.int .i64 (stepE n)) ∧ w = w' := by
  have HE := hide (show unI (withinB n 0 7) 2 = stepE n from rfl)
  go_enter Try.func100, Try.ntmps100
  go_wp2_with (first | (go_at_call 99; refine (isWithin_any _ _ _ _).mono ?_; rintro e w' ⟨rfl, rfl⟩) | (go_at_call 70; refine (unless_any _ _ _).mono ?_; rintro e w' ⟨rfl, rfl⟩))
  go_ret
  exact ⟨by rw [HE.out]; rfl, rfl⟩
/-- Errors of a beam: its size, its phases, whether an antenna is on. -/
def cbA (n : Nat) : Int := firstE [unI (decide (0 < n)) 10, unI (decide ((n : Int) ≤ 8)) 8]
def onB (x : Int) : Bool := x != -1
def phE (F : Nat → Int) (n : Nat) : Int := badE (fun j => inE (-1) 7 (F j)) n
def cbE (n : Nat) (F : Nat → Int) : Int := if cbA n = 0 then (if phE F n = 0 then unI (anyN n fun j => onB (F j)) 11 else phE F n) else cbA n
def cbI (n : Nat) (F : Nat → Int) : Int := if cbA n = 0 then (if phE F n = 0 then 0 else (badI (fun j => inE (-1) 7 (F j)) n : Nat)) else 0
theorem cbA_zero {n : Nat} (h : cbA n = 0) : 0 < n ∧ n ≤ 8 := by
  obtain ⟨h1, h2⟩ := firstE_none2 h
  obtain ⟨h3, -⟩ := firstE_none2 h2
  have h1 := unI_none (by decide) h1
  have h3 := unI_none (by decide) h3
  simp at h1 h3
  omega
set_option maxHeartbeats 1000000 in
theorem checkBeam1_any (x : Int) (w : World) : Calls Try.prog 142 #[.int .i64 x] w fun e w' => e = .returned (.bool (onB x)) ∧ ∃ q, w' = w.drewN q := by
  unfold onB
  go_enter Try.func142, Try.ntmps142
  go_wp2
  go_ret
  exact ⟨rfl, 0, rfl⟩
set_option maxHeartbeats 4000000 in
set_option maxRecDepth 100000 in
theorem CheckBeam_any (A : Option Addr) (n c : Nat) (F : Nat → Int) (w : World) (hn : n ≤ 100000) (hI : IntsAt w 0 A n F) :
    Calls Try.prog 115 #[.agg #[.slice A n c]] w fun e w' => e = .returned (.tuple #[.int .i64 (cbI n F), .int .i64 (cbE n F)]) ∧ Below w.heap.size w w' := by
  have HA := hide (show firstE [unI (decide (0 < n)) 10, unI (decide ((n : Int) ≤ 8)) 8] = cbA n from rfl)
  have HE := hide (show cbE n F = if cbA n = 0 then (if phE F n = 0 then unI (anyN n fun j => onB (F j)) 11 else phE F n) else cbA n from rfl)
  have HN := hide (show cbI n F = if cbA n = 0 then (if phE F n = 0 then 0 else ((badI (fun j => inE (-1) 7 (F j)) n : Nat) : Int)) else 0 from rfl)
  have HI := hide hI
  have HFW := hide (fun b1 b2 W (h : IntsAt W 0 A n F) h1 h2 => (show Calls Try.prog 121 #[.slice A n c, .func (.func 122) #[] #[.pointer (some ⟨b1, 0, none⟩), .pointer (some ⟨b2, 0, none⟩)]] W fun e w' => e = .returned (.tuple #[.int .i64 (badI (fun j => inE (-1) 7 (F j)) n : Nat), .int .i64 (phE F n)]) ∧ Below W.heap.size W w' from firstWrong_within (-1) 7 A n c b1 b2 F W hn h h1 h2))
  have HCF := hide (fun W (h : IntsAt W 0 A n F) => containsFunc_any 142 #[] (enters_of Try.func142 (by kernel_rfl) rfl) onB A n c F W hn h (fun x W' _ => checkBeam1_any x W'))
  generalize cbE n F = ve at *
  generalize cbI n F = vi at *
  generalize cbA n = V at *
  generalize phE F n = P at *
  generalize badI (fun j => inE (-1) 7 (F j)) n = bi at *
  generalize (anyN n fun j => onB (F j)) = on at *
  clear hI
  go_enter Try.func115, Try.ntmps115
  go_upto_region 1 with fail
  obtain ⟨w_1, hw_1⟩ : ∃ q : World, q = (w.alloc (.cells #[.slice A n c] 43)) := ⟨_, rfl⟩
  try rw [← hw_1]
  have HX0 := hide (show Box w_1 (w.heap.size) 43 #[.slice A n c] by rw [hw_1]; exact Box.made rfl)
  have HB := hide (show Below w.heap.size w w_1 by rw [hw_1]; (repeat (first | (with_reducible exact Below.refl _ _) | (with_reducible refine Go.below_drewN ?_ _) | (with_reducible refine Below.drew ?_) | (with_reducible refine Below.alloc ?_ (by first | exact Nat.le_refl _ | (simp; done) | (simp; omega) | omega) _) | (with_reducible refine Below.setCell ?_ (by first | exact Nat.le_refl _ | (simp; done) | (simp; omega) | omega) _))))
  clear hw_1
  refine wp_region_held_drew (S := fun w' => w'.cell? ⟨w.heap.size, 0, none⟩ = some (.slice A n c)) (by kernel_rfl) HX0.out.c1.1 (fun hHeld => ?_)
  obtain ⟨w_2, hw_2⟩ : ∃ q : World, q = w_1.drew := ⟨_, rfl⟩
  rw [← hw_2] at hHeld ⊢
  have hc_2 : Below w_1.heap.size w_1 w_2 := by rw [hw_2]; exact (Below.refl _ _).drew
  clear hw_2
  replace HX0 := hide (HX0.out.below hc_2)
  replace HB := hide (HB.out.trans (hc_2.mono HB.out.size))
  clear hc_2
  refine wpAnyH_take (i := 0) (oi := ⟨some 8, _, _, _, _, _⟩) (v := ?_) rfl (by kernel_rfl) (by kernel_rfl) (by kernel_rfl) (fun _ _ _ h => h) (Or.inl ⟨by rfl, ?_⟩) (by assumption) ?_
  rotate_left
  · (intro w' hSw; (try dsimp only at hSw); go_simp <;> (with_reducible rfl))
  try simp only [Act.put, List.setIfInBounds_toArray, List.set_cons_zero, List.set_cons_succ]
  refine wpAnyH_take (i := 1) (oi := ⟨some 9, _, _, _, _, _⟩) (v := ?_) rfl (by kernel_rfl) (by kernel_rfl) (by kernel_rfl) (fun _ _ _ h => h) (Or.inl ⟨by rfl, ?_⟩) (by assumption) ?_
  rotate_left
  · (intro w' hSw; (try dsimp only at hSw); go_simp <;> (with_reducible rfl))
  try simp only [Act.put, List.setIfInBounds_toArray, List.set_cons_zero, List.set_cons_succ]
  refine wpAnyH_take (i := 2) (oi := ⟨some 10, _, _, _, _, _⟩) (v := ?_) rfl (by kernel_rfl) (by kernel_rfl) (by kernel_rfl) (fun _ _ _ h => h) (Or.inl ⟨by rfl, ?_⟩) (by assumption) ?_
  rotate_left
  · (intro w' hSw; (try dsimp only at hSw); go_simp <;> (with_reducible rfl))
  try simp only [Act.put, List.setIfInBounds_toArray, List.set_cons_zero, List.set_cons_succ]
  refine wpAnyH_take (i := 3) (oi := ⟨some 11, _, _, _, _, _⟩) (v := ?_) rfl (by kernel_rfl) (by kernel_rfl) (by kernel_rfl) (fun _ _ _ h => h) (Or.inl ⟨by rfl, ?_⟩) (by assumption) ?_
  rotate_left
  · (intro w' hSw; (try dsimp only at hSw); go_simp <;> (with_reducible rfl))
  try simp only [Act.put, List.setIfInBounds_toArray, List.set_cons_zero, List.set_cons_succ]
  refine wpAnyH_take (i := 5) (oi := ⟨some 13, _, _, _, _, _⟩) (v := ?_) rfl (by kernel_rfl) (by kernel_rfl) (by kernel_rfl) (fun _ _ _ h => h) (Or.inl ⟨by rfl, ?_⟩) (by assumption) ?_
  rotate_left
  · (intro w' hSw; (try dsimp only at hSw); go_simp <;> (with_reducible rfl))
  try simp only [Act.put, List.setIfInBounds_toArray, List.set_cons_zero, List.set_cons_succ]
  refine wpAnyH_take (i := 6) (oi := ⟨some 14, _, _, _, _, _⟩) (v := ?_) rfl (by kernel_rfl) (by kernel_rfl) (by kernel_rfl) (fun _ _ _ h => h) (Or.inl ⟨by rfl, ?_⟩) (by assumption) ?_
  rotate_left
  · (intro w' hSw; (try dsimp only at hSw); go_simp <;> (with_reducible rfl))
  try simp only [Act.put, List.setIfInBounds_toArray, List.set_cons_zero, List.set_cons_succ]
  refine wpAnyH_take (i := 7) (oi := ⟨some 15, _, _, _, _, _⟩) (v := ?_) rfl (by kernel_rfl) (by kernel_rfl) (by kernel_rfl) (fun _ _ _ h => h) (Or.inl ⟨by rfl, ?_⟩) (by assumption) ?_
  rotate_left
  · (intro w' hSw; (try dsimp only at hSw); go_simp <;> (with_reducible rfl))
  try simp only [Act.put, List.setIfInBounds_toArray, List.set_cons_zero, List.set_cons_succ]
  refine wpAnyH_take (i := 8) (oi := ⟨some 16, _, _, _, _, _⟩) (v := ?_) rfl (by kernel_rfl) (by kernel_rfl) (by kernel_rfl) (fun _ _ _ h => h) (Or.inl ⟨by rfl, ?_⟩) (by assumption) ?_
  rotate_left
  · (intro w' hSw; (try dsimp only at hSw); go_simp <;> (with_reducible rfl))
  try simp only [Act.put, List.setIfInBounds_toArray, List.set_cons_zero, List.set_cons_succ]
  refine wpAnyH_ready (rs := [4]) (by kernel_rfl) (by simp) ?_
  refine AllReadyH.cons (o := ⟨some 12, _, _, _, _, _⟩) rfl (fun K' hK => ?_) AllReadyH.nil
  go_simp
  go_at_call 70
  refine (unless_any _ _ _).mono ?_
  rintro e_ v_ ⟨rfl, rfl⟩
  go_wp2_with fail
  refine hK.out _ _ HX0.out.c1.1 (fun hHeld => ?_)
  clear hK K'
  try simp only [Act.put, List.setIfInBounds_toArray, List.set_cons_zero, List.set_cons_succ]
  refine wpAnyH_ready (rs := [9]) (by kernel_rfl) (by simp) ?_
  refine AllReadyH.cons (o := ⟨some 17, _, _, _, _, _⟩) rfl (fun K' hK => ?_) AllReadyH.nil
  go_simp
  go_at_call 70
  refine (unless_any _ _ _).mono ?_
  rintro e_ v_ ⟨rfl, rfl⟩
  go_wp2_with fail
  refine hK.out _ _ HX0.out.c1.1 (fun hHeld => ?_)
  clear hK K'
  try simp only [Act.put, List.setIfInBounds_toArray, List.set_cons_zero, List.set_cons_succ]
  refine wpAnyH_ready (rs := [10]) (by kernel_rfl) (by simp) ?_
  refine AllReadyH.cons (o := ⟨some 18, _, _, _, _, _⟩) rfl (fun K' hK => ?_) AllReadyH.nil
  go_simp
  obtain ⟨g2, hg2⟩ : ∃ q, w_2.heap.size = q := ⟨_, rfl⟩
  obtain ⟨w_3, hw_3⟩ : ∃ q : World, q = w_2.alloc (.cells #[.int .i64 (unI (decide (0 < n)) 10), .int .i64 (unI (decide ((n : Int) ≤ 8)) 8)] 28) := ⟨_, rfl⟩
  try rw [← hw_3]
  have HE2 := hide (show Box w_3 g2 28 #[.int .i64 (unI (decide (0 < n)) 10), .int .i64 (unI (decide ((n : Int) ≤ 8)) 8)] by rw [hw_3]; exact Box.made hg2.symm)
  have hc_3 : Below w_2.heap.size w_2 w_3 := by rw [hw_3]; exact (Below.refl _ _).alloc (Nat.le_refl _) _
  clear hw_3
  replace HX0 := hide (HX0.out.below hc_3)
  replace HB := hide (HB.out.trans (hc_3.mono HB.out.size))
  clear hc_3
  try simp only [hg2]
  clear hg2
  refine hK.out _ _ HX0.out.c1.1 (fun hHeld => ?_)
  clear hK K'
  try simp only [Act.put, List.setIfInBounds_toArray, List.set_cons_zero, List.set_cons_succ]
  refine wpAnyH_ready (rs := [11]) (by kernel_rfl) (by simp) ?_
  refine AllReadyH.cons (o := ⟨some 19, _, _, _, _, _⟩) rfl (fun K' hK => ?_) AllReadyH.nil
  go_simp
  go_at_call 67
  refine (firstError_box g2 2 [unI (decide (0 < n)) 10, unI (decide ((n : Int) ≤ 8)) 8] _ _ rfl (by decide) HE2.out).mono ?_
  rintro e_ v_ ⟨rfl, rfl⟩
  go_wp2_with fail
  refine hK.out _ _ HX0.out.c1.1 (fun hHeld => ?_)
  clear hK K'
  try simp only [Act.put, List.setIfInBounds_toArray, List.set_cons_zero, List.set_cons_succ]
  refine wpAnyH_take (i := 12) (oi := ⟨some 4, _, _, _, _, _⟩) (v := ?_) rfl (by kernel_rfl) (by kernel_rfl) (by kernel_rfl) (fun _ _ _ h => h) (Or.inl ⟨by rfl, ?_⟩) (by assumption) ?_
  rotate_left
  · (intro w' hSw; (try dsimp only at hSw); go_simp <;> (with_reducible rfl))
  try simp only [Act.put, List.setIfInBounds_toArray, List.set_cons_zero, List.set_cons_succ]
  refine wpAnyH_done (by kernel_rfl) ?_ _
  rw [HA.out]
  clear hHeld HE2
  by_cases hv : V = 0
  case neg =>
    have tv : (V != 0) = true := by simpa using hv
    rw [if_neg hv] at HE HN
    clear hv
    go_wp2_with fail
    go_ret2
    exact ⟨by rw [HE.out, HN.out]; rfl, HB.out⟩
  have tv : (V != 0) = false := by simpa using hv
  rw [if_pos hv] at HE HN
  subst hv
  go_upto_region 4 with fail
  refine wp_region_held_drew (S := fun w' => w'.cell? ⟨w.heap.size, 0, none⟩ = some (.slice A n c)) (by kernel_rfl) HX0.out.c1.1 (fun hHeld => ?_)
  obtain ⟨w_4, hw_4⟩ : ∃ q : World, q = w_3.drew := ⟨_, rfl⟩
  rw [← hw_4] at hHeld ⊢
  have hc_4 : Below w_3.heap.size w_3 w_4 := by rw [hw_4]; exact (Below.refl _ _).drew
  clear hw_4
  replace HX0 := hide (HX0.out.below hc_4)
  replace HB := hide (HB.out.trans (hc_4.mono HB.out.size))
  clear hc_4
  refine wpAnyH_take (i := 0) (oi := ⟨some 24, _, _, _, _, _⟩) (v := ?_) rfl (by kernel_rfl) (by kernel_rfl) (by kernel_rfl) (fun _ _ _ h => h) (Or.inl ⟨by rfl, ?_⟩) (by assumption) ?_
  rotate_left
  · (intro w' hSw; (try dsimp only at hSw); go_simp <;> (with_reducible rfl))
  try simp only [Act.put, List.setIfInBounds_toArray, List.set_cons_zero, List.set_cons_succ]
  refine wpAnyH_take (i := 1) (oi := ⟨some 25, _, _, _, _, _⟩) (v := ?_) rfl (by kernel_rfl) (by kernel_rfl) (by kernel_rfl) (fun _ _ _ h => h) (Or.inl ⟨by rfl, ?_⟩) (by assumption) ?_
  rotate_left
  · (intro w' hSw; (try dsimp only at hSw); go_simp <;> (with_reducible rfl))
  try simp only [Act.put, List.setIfInBounds_toArray, List.set_cons_zero, List.set_cons_succ]
  refine wpAnyH_ready (rs := [2]) (by kernel_rfl) (by simp) ?_
  refine AllReadyH.cons (o := ⟨some 26, _, _, _, _, _⟩) rfl (fun K' hK => ?_) AllReadyH.nil
  go_simp
  go_at_call 78
  refine (within_clo _ _ _).mono ?_
  rintro e_ w_5 ⟨rfl, c1, c2, hb_5⟩
  replace HX0 := hide (HX0.out.below hb_5)
  replace HB := hide (HB.out.trans (hb_5.mono HB.out.size))
  clear hb_5
  go_wp2_with fail
  refine hK.out _ _ HX0.out.c1.1 (fun hHeld => ?_)
  clear hK K'
  try simp only [Act.put, List.setIfInBounds_toArray, List.set_cons_zero, List.set_cons_succ]
  refine wpAnyH_ready (rs := [3]) (by kernel_rfl) (by simp) ?_
  refine AllReadyH.cons (o := ⟨some 27, _, _, _, _, _⟩) rfl (fun K' hK => ?_) AllReadyH.nil
  go_simp
  go_at_call 121
  refine (HFW.out _ _ _ (HI.out.below HB.out) c1 c2).mono ?_
  rintro e_ w_6 ⟨rfl, hb_6⟩
  clear c1 c2
  replace HX0 := hide (HX0.out.below hb_6)
  replace HB := hide (HB.out.trans (hb_6.mono HB.out.size))
  clear hb_6
  go_wp2_with fail
  refine hK.out _ _ HX0.out.c1.1 (fun hHeld => ?_)
  clear hK K'
  try simp only [Act.put, List.setIfInBounds_toArray, List.set_cons_zero, List.set_cons_succ]
  refine wpAnyH_take (i := 4) (oi := ⟨some 23, _, _, _, _, _⟩) (v := ?_) rfl (by kernel_rfl) (by kernel_rfl) (by kernel_rfl) (fun _ _ _ h => h) (Or.inl ⟨by rfl, ?_⟩) (by assumption) ?_
  rotate_left
  · (intro w' hSw; (try dsimp only at hSw); go_simp <;> (with_reducible rfl))
  try simp only [Act.put, List.setIfInBounds_toArray, List.set_cons_zero, List.set_cons_succ]
  refine wpAnyH_take (i := 5) (oi := ⟨some 28, _, _, _, _, _⟩) (v := ?_) rfl (by kernel_rfl) (by kernel_rfl) (by kernel_rfl) (fun _ _ _ h => h) (Or.inl ⟨by rfl, ?_⟩) (by assumption) ?_
  rotate_left
  · (intro w' hSw; (try dsimp only at hSw); go_simp <;> (with_reducible rfl))
  try simp only [Act.put, List.setIfInBounds_toArray, List.set_cons_zero, List.set_cons_succ]
  refine wpAnyH_take (i := 6) (oi := ⟨some 29, _, _, _, _, _⟩) (v := ?_) rfl (by kernel_rfl) (by kernel_rfl) (by kernel_rfl) (fun _ _ _ h => h) (Or.inl ⟨by rfl, ?_⟩) (by assumption) ?_
  rotate_left
  · (intro w' hSw; (try dsimp only at hSw); go_simp <;> (with_reducible rfl))
  try simp only [Act.put, List.setIfInBounds_toArray, List.set_cons_zero, List.set_cons_succ]
  refine wpAnyH_take (i := 7) (oi := ⟨some 5, _, _, _, _, _⟩) (v := ?_) rfl (by kernel_rfl) (by kernel_rfl) (by kernel_rfl) (fun _ _ _ h => h) (Or.inl ⟨by rfl, ?_⟩) (by assumption) ?_
  rotate_left
  · (intro w' hSw; (try dsimp only at hSw); go_simp <;> (with_reducible rfl))
  try simp only [Act.put, List.setIfInBounds_toArray, List.set_cons_zero, List.set_cons_succ]
  refine wpAnyH_take (i := 8) (oi := ⟨some 6, _, _, _, _, _⟩) (v := ?_) rfl (by kernel_rfl) (by kernel_rfl) (by kernel_rfl) (fun _ _ _ h => h) (Or.inl ⟨by rfl, ?_⟩) (by assumption) ?_
  rotate_left
  · (intro w' hSw; (try dsimp only at hSw); go_simp <;> (with_reducible rfl))
  try simp only [Act.put, List.setIfInBounds_toArray, List.set_cons_zero, List.set_cons_succ]
  refine wpAnyH_done (by kernel_rfl) ?_ _
  clear hHeld
  by_cases hp : P = 0
  · rw [if_pos hp] at HE HN
    subst hp
    obtain ⟨x0, -, hlx⟩ := HX0.out.c1
    have HI4 := hide (HI.out.below HB.out)
    go_wp2_with (first | (go_at_call 143; refine (HCF.out _ HI4.out).mono ?_; rintro e_ w5 ⟨rfl, q, rfl⟩) | (go_at_call 70; refine (unless_any _ _ _).mono ?_; rintro e_ v_ ⟨rfl, rfl⟩))
    go_ret2
    exact ⟨by rw [HE.out, HN.out]; rfl, ⟨HB.out.os, HB.out.tape, HB.out.output, HB.out.size, HB.out.block⟩⟩
  · have tp : (P != 0) = true := by simpa using hp
    rw [if_neg hp] at HE HN
    clear hp
    go_wp2_with fail
    go_ret2
    exact ⟨by rw [HE.out, HN.out]; rfl, HB.out⟩
set_option maxHeartbeats 1000000 in
theorem beamError_any (A : Option Addr) (n c : Nat) (F : Nat → Int) (w : World) (hn : n ≤ 100000) (hI : IntsAt w 0 A n F) :
    Calls Try.prog 68 #[.agg #[.slice A n c]] w fun e w' => e = .returned (.int .i64 (cbE n F)) ∧ Below w.heap.size w w' := by
  have HC := hide (fun W (h : IntsAt W 0 A n F) => CheckBeam_any A n c F W hn h)
  have HI := hide hI
  clear hI
  go_enter Try.func68, Try.ntmps68
  go_upto_region 1 with fail
  obtain ⟨W, hW⟩ : ∃ y : World, y = w.alloc (.cells #[.slice A n c] 43) := ⟨_, rfl⟩
  rw [← hW]
  have b1 : Box W w.heap.size 43 #[.slice A n c] := by rw [hW]; exact Box.made rfl
  have hB : Below w.heap.size w W := by rw [hW]; (repeat (first | (with_reducible exact Below.refl _ _) | (with_reducible refine Go.below_drewN ?_ _) | (with_reducible refine Below.drew ?_) | (with_reducible refine Below.alloc ?_ (by first | exact Nat.le_refl _ | (simp; done) | (simp; omega) | omega) _) | (with_reducible refine Below.setCell ?_ (by first | exact Nat.le_refl _ | (simp; done) | (simp; omega) | omega) _)))
  clear hW
  have x0 : W.cell? ⟨w.heap.size, 0, none⟩ = some (.slice A n c) := b1.at_ 0
  have hl := b1.lt
  go_wp2_with fail
  refine (HC.out _ (HI.out.below hB)).mono ?_
  rintro e w1 ⟨rfl, hb1⟩
  clear x0 hl
  go_wp2_with fail
  go_ret
  exact ⟨rfl, hB.trans (hb1.mono hB.size)⟩
end Go.Proofs.Ytdkbjgnkehoplaa
