/- Lemmas: Wc, Va, Vb, Vc, Vd, Wq, Ej. -/
import Derived.Great.Walk
import Derived.Great.Ranges
import Derived.StillTailTactics
import Derived.Lib.AppendZeros
import Derived.Test.YtcndeegfkgfnkaaBy01
set_option linter.unusedVariables false
set_option linter.unusedSimpArgs false
/- Structs of four numbers in memory; turned, times. -/
namespace Go.Proofs.Ytcndeegfkgfnkaa
open Go.RowKit
theorem Box.put4 {w : World} {b : Nat} {t : TypeId} {p0 p1 p2 p3 : Value} (h : Box w b t #[p0, p1, p2, p3]) (u0 u1 u2 u3 : Value) : Box ((((w.setCell ⟨b, 0, none⟩ u0).setCell ⟨b, 1, none⟩ u1).setCell ⟨b, 2, none⟩ u2).setCell ⟨b, 3, none⟩ u3) b t #[u0, u1, u2, u3] := by
  have := (((h.set_ 0 u0).set_ 1 u1).set_ 2 u2).set_ 3 u3
  simpa using this
theorem Box.cells4 {w : World} {b : Nat} {t : TypeId} {p0 p1 p2 p3 : Value} (h : Box w b t #[p0, p1, p2, p3]) :
    w.cell? ⟨b, 0, none⟩ = some p0 ∧ w.cell? ⟨b, 1, none⟩ = some p1 ∧ w.cell? ⟨b, 2, none⟩ = some p2 ∧ w.cell? ⟨b, 3, none⟩ = some p3 ∧ w.frozen? ⟨b, 0, none⟩ = false ∧ w.frozen? ⟨b, 1, none⟩ = false ∧ w.frozen? ⟨b, 2, none⟩ = false ∧ w.frozen? ⟨b, 3, none⟩ = false ∧ b < w.heap.size :=
  ⟨h.at_ 0, h.at_ 1, h.at_ 2, h.at_ 3, h.free 0, h.free 1, h.free 2, h.free 3, h.lt⟩
theorem Box.other4 {w : World} {b c : Nat} {t : TypeId} {cs : Array Value} (h : Box w b t cs) (hn : b ≠ c) (u0 u1 u2 u3 : Value) : Box ((((w.setCell ⟨c, 0, none⟩ u0).setCell ⟨c, 1, none⟩ u1).setCell ⟨c, 2, none⟩ u2).setCell ⟨c, 3, none⟩ u3) b t cs :=
  (((h.other (p := ⟨c, 0, none⟩) hn u0).other (p := ⟨c, 1, none⟩) hn u1).other (p := ⟨c, 2, none⟩) hn u2).other (p := ⟨c, 3, none⟩) hn u3
theorem Below.put4 {B c : Nat} {w W : World} (h : Below B w W) (hc : B ≤ c) (u0 u1 u2 u3 : Value) : Below B w ((((W.setCell ⟨c, 0, none⟩ u0).setCell ⟨c, 1, none⟩ u1).setCell ⟨c, 2, none⟩ u2).setCell ⟨c, 3, none⟩ u3) :=
  (((h.setCell hc u0).setCell hc u1).setCell hc u2).setCell hc u3
theorem modulo8 (n : Int) (w : World) : Calls Try.prog 53 #[.int .i64 n, .int .i64 8] w fun e w' => e = .returned (.int .i64 (n % 8)) ∧ w = w' := modulo_any n 8 w (by decide) (by decide)
set_option maxHeartbeats 2000000 in
theorem turned_any (x : Num) (n : Int) (w : World) (hx : x.Within 4611686018427387904) :
    Calls Try.prog 35 #[.agg #[.int .i64 x.a, .int .i64 x.b, .int .i64 x.c, .int .i64 x.d], .int .i64 n] w fun e w' => e = .returned (.agg #[.int .i64 (x.turns (n % 8).toNat).a, .int .i64 (x.turns (n % 8).toNat).b, .int .i64 (x.turns (n % 8).toNat).c, .int .i64 (x.turns (n % 8).toNat).d]) ∧ Below w.heap.size w w' := by
  have HX := hide hx
  clear hx
  obtain ⟨k, hk⟩ : ∃ k, k = (n % 8).toNat := ⟨_, rfl⟩
  have hkz : n % 8 = (k : Int) := by have := Int.emod_nonneg n (show (8 : Int) ≠ 0 by decide); omega
  have hk8 : k < 8 := by have := Int.emod_lt_of_pos n (show (0 : Int) < 8 by decide); omega
  rw [← hk]
  have HM := hide (fun W => modulo8 n W)
  rw [hkz] at HM
  clear hk hkz
  go_enter Try.func35, Try.ntmps35
  go_wp2_with (go_at_call 53; refine (HM.out _).mono ?_; rintro e w' ⟨rfl, rfl⟩)
  go_loopw [7] (fun i wr => ∃ j : Nat, j ≤ k ∧ i = .int .i64 (j : Int) ∧ Box wr w.heap.size 46 #[.int .i64 (x.turns j).a, .int .i64 (x.turns j).b, .int .i64 (x.turns j).c, .int .i64 (x.turns j).d] ∧ Box wr (w.heap.size + 1) 46 #[.int .i64 0, .int .i64 0, .int .i64 0, .int .i64 0] ∧ Below w.heap.size w wr) (fun i _ => k - (Go.RowKit.intOf i).toNat)
  case atStart => exact ⟨0, Nat.zero_le _, rfl, (Box.made rfl).alloc _, Box.made (by simp), by (repeat (first | (with_reducible exact Below.refl _ _) | (with_reducible refine Go.below_drewN ?_ _) | (with_reducible refine Below.drew ?_) | (with_reducible refine Below.alloc ?_ (by first | exact Nat.le_refl _ | (simp; done) | (simp; omega) | omega) _) | (with_reducible refine Below.setCell ?_ (by first | exact Nat.le_refl _ | (simp; done) | (simp; omega) | omega) _)))⟩
  case round =>
    obtain ⟨j, hj, rfl, bx, by', hB⟩ := hrel
    have hy := HX.out.turns j
    have HT := hide (show x.turns (j + 1) = (x.turns j).turn from rfl)
    obtain ⟨y, hyx⟩ : ∃ y, x.turns j = y := ⟨_, rfl⟩
    rw [hyx] at bx hy HT
    have HYX := hide hyx
    clear hyx
    obtain ⟨h1, h2, h3, h4⟩ := hy
    obtain ⟨z0, z1, z2, z3, f0, f1, f2, f3, hl⟩ := bx.cells4
    by_cases hlt : j < k
    · have hltz : (j : Int) < (k : Int) := by omega
      have q1 : IntKind.i64.wrap (-y.d) = -y.d := IntWalk.i64_in _ (by omega)
      have HBX := hide (bx.put4 (.int .i64 (-y.d)) (.int .i64 y.a) (.int .i64 y.b) (.int .i64 y.c))
      have HBY := hide (by'.other4 (c := w.heap.size) (by omega) (.int .i64 (-y.d)) (.int .i64 y.a) (.int .i64 y.b) (.int .i64 y.c))
      have HBL := hide (Below.put4 hB (Nat.le_refl _) (.int .i64 (-y.d)) (.int .i64 y.a) (.int .i64 y.b) (.int .i64 y.c))
      clear bx by' hB h1 h2 h3 h4
      go_wp2_with fail
      go_roundw
      case rel => exact ⟨j + 1, by omega, by go_num, by rw [HT.out]; exact HBX.out, HBY.out, HBL.out⟩
      case measure => simp [Go.RowKit.intOf]; omega
    · obtain rfl : j = k := by omega
      obtain ⟨y0, y1, y2, y3, g0, g1, g2, g3, hl'⟩ := by'.cells4
      have HBY := hide (by'.put4 (.int .i64 y.a) (.int .i64 y.b) (.int .i64 y.c) (.int .i64 y.d))
      have HBL := hide (Below.put4 hB (Nat.le_succ _) (.int .i64 y.a) (.int .i64 y.b) (.int .i64 y.c) (.int .i64 y.d))
      clear bx by' hB h1 h2 h3 h4
      go_wp2_with fail
      refine bodyPost_ret (v := .agg #[.int .i64 y.a, .int .i64 y.b, .int .i64 y.c, .int .i64 y.d]) ?_ rfl ⟨by rw [HYX.out], HBL.out⟩
      obtain ⟨y0, y1, y2, y3, -⟩ := HBY.out.cells4
      simp [results, Try.results35, go_sem, y0, y1, y2, y3]
set_option maxHeartbeats 2000000 in
theorem times_any (n : Int) (x : Num) (M N : Int) (w : World) (hx : x.Within M) (hn : -N ≤ n ∧ n ≤ N) (hM : N * M ≤ 9223372036854775807) :
    Calls Try.prog 52 #[.int .i64 n, .agg #[.int .i64 x.a, .int .i64 x.b, .int .i64 x.c, .int .i64 x.d]] w fun e w' => e = .returned (.agg #[.int .i64 (n * x.a), .int .i64 (n * x.b), .int .i64 (n * x.c), .int .i64 (n * x.d)]) ∧ Below w.heap.size w w' := by
  obtain ⟨h1, h2, h3, h4⟩ := hx.times hn
  have q1 : IntKind.i64.wrap (n * x.a) = n * x.a := IntWalk.i64_in _ (by have : -(N * M) ≤ n * x.a ∧ n * x.a ≤ N * M := h1; omega)
  have q2 : IntKind.i64.wrap (n * x.b) = n * x.b := IntWalk.i64_in _ (by have : -(N * M) ≤ n * x.b ∧ n * x.b ≤ N * M := h2; omega)
  have q3 : IntKind.i64.wrap (n * x.c) = n * x.c := IntWalk.i64_in _ (by have : -(N * M) ≤ n * x.c ∧ n * x.c ≤ N * M := h3; omega)
  have q4 : IntKind.i64.wrap (n * x.d) = n * x.d := IntWalk.i64_in _ (by have : -(N * M) ≤ n * x.d ∧ n * x.d ≤ N * M := h4; omega)
  clear h1 h2 h3 h4 hx hn hM
  go_enter Try.func52, Try.ntmps52
  go_wp2_with fail
  have hb : Box ((w.alloc (.cells #[.int .i64 x.a, .int .i64 x.b, .int .i64 x.c, .int .i64 x.d] 46)).alloc (.cells #[.int .i64 (n * x.a), .int .i64 (n * x.b), .int .i64 (n * x.c), .int .i64 (n * x.d)] 46)) (w.heap.size + 1) 46 #[.int .i64 (n * x.a), .int .i64 (n * x.b), .int .i64 (n * x.c), .int .i64 (n * x.d)] := Box.made (by simp)
  obtain ⟨y0, y1, y2, y3, -⟩ := hb.cells4
  refine bodyPost_ret (v := .agg #[.int .i64 (n * x.a), .int .i64 (n * x.b), .int .i64 (n * x.c), .int .i64 (n * x.d)]) ?_ rfl ⟨rfl, by (repeat (first | (with_reducible exact Below.refl _ _) | (with_reducible refine Go.below_drewN ?_ _) | (with_reducible refine Below.drew ?_) | (with_reducible refine Below.alloc ?_ (by first | exact Nat.le_refl _ | (simp; done) | (simp; omega) | omega) _) | (with_reducible refine Below.setCell ?_ (by first | exact Nat.le_refl _ | (simp; done) | (simp; omega) | omega) _)))⟩
  simp [results, Try.results52, go_sem, y0, y1, y2, y3]
end Go.Proofs.Ytcndeegfkgfnkaa
/- Arrays of 31 numbers, and of eight numbers of four parts: a whole block stored, a whole block loaded. -/
namespace Go.Proofs.Ytcndeegfkgfnkaa
open Go.RowKit

theorem setCells_row (b : Nat) (t : TypeId) : ∀ (l : List Value) (o : Nat) (w : World) (cs : Array Value), Box w b t cs → o + l.length ≤ cs.size →
    ∃ cs' : Array Value, Box (w.setCells b o l) b t cs' ∧ cs'.size = cs.size ∧ (∀ i, cs'[i]? = if o ≤ i ∧ i < o + l.length then l[i - o]? else cs[i]?) ∧ Only b w (w.setCells b o l)
  | [], o, w, cs, h, _ => ⟨cs, h, rfl, fun i => by rw [if_neg (by simp <;> omega)], Only.refl _ _⟩
  | v :: r, o, w, cs, h, hl => by
    obtain ⟨cs', h1, h2, h3, h4⟩ := setCells_row b t r (o + 1) (w.setCell ⟨b, o, none⟩ v) (cs.setIfInBounds o v) (h.set_ o v) (by simp at hl ⊢; omega)
    refine ⟨cs', h1, by simpa using h2, fun i => ?_, ((Only.refl _ _).set_ _ _).trans h4⟩
    rw [h3 i]
    simp only [List.length_cons] at hl ⊢
    by_cases e : i = o
    · subst e
      rw [if_neg (by omega), if_pos (by omega), Nat.sub_self]
      simp [Array.getElem?_setIfInBounds]
      omega
    · by_cases e2 : o + 1 ≤ i ∧ i < o + 1 + r.length
      · rw [if_pos e2, if_pos (by omega), show i - o = (i - (o + 1)) + 1 by omega, List.getElem?_cons_succ]
      · rw [if_neg e2, if_neg (by omega), Array.getElem?_setIfInBounds]
        rw [if_neg (by omega)]

section
variable {P : Program}
/-- A value of as many cells as a block has is stored into it: the block holds the value's cells; nothing else has turned. -/
theorem wpList_store_block {ops : Array Oper} {rest : List Oper} {op : Oper} {a : Act} {w : World} {Q : Exit → Act → World → Prop} (hgd : op.guard = none) (ty : TypeId) (x y : Operand) (ho : op.op = .store ty x y)
    (b : Nat) (t : TypeId) (n : Nat) (f0 f : Nat → Value) (cells : Array Value) (hx : a.eval x = .pointer (some ⟨b, 0, none⟩)) (hy : a.eval y = .agg cells)
    (hb : w.rowIs b t n f0) (hc : cells.size = n) (hi : (P.info? ty).map (·.size) = some n) (h1 : cells.all (·.oneCell') = true) (hf : ∀ i, i < n → cells[i]? = some (f i))
    (h : ∀ W, W.rowIs b t n f → Only b w W → wpList P ops Q rest (a.put op.dst undef) W) : wpList P ops Q (op :: rest) a w := by
  obtain ⟨cs, hbx, hs, -⟩ := hb
  have hb : Box w b t cs := hbx
  obtain ⟨cs', g1, g2, g3, g4⟩ := setCells_row b t cells.toList 0 w cs hb (by simp; omega)
  refine wpList_store_mid hgd ty x y ho b 0 cells hx hy (fun j hj => ⟨?_, hb.free _⟩) (by rw [hi, hc]) h1 (h _ ⟨cs', g1, by omega, fun i hi' => ?_⟩ g4)
  · rw [hb.at_, Array.getElem?_eq_getElem (by omega)]
    rfl
  · rw [g3 i, if_pos (by simp; omega)]
    simpa using hf i hi'
end

theorem Only.row {b c : Nat} {t : TypeId} {n : Nat} {f : Nat → Value} {a w : World} (h : Only b a w) (hr : a.rowIs c t n f) (hn : c ≠ b) : w.rowIs c t n f :=
  hr.of_block (h.block c hr.lt (fun e => hn (by injection e)))
theorem below_behind {w w1 : World} {o : Obj} (h : Below (w.alloc o).heap.size (w.alloc o) w1) : Below w.heap.size w w1 := ((Below.refl _ _).alloc (Nat.le_refl _) o).trans (h.mono (by simp))
def listF (l : List Int) (k : Nat) : Int := l.getD k 0
theorem IntsAt.of_list {w : World} {lo g : Nat} {t : TypeId} (l : List Int) (n : Nat) (hn : n = l.length) (h : Box w g t (l.map (Value.int .i64)).toArray) (hl : lo ≤ g) : IntsAt w lo (some ⟨g, 0, none⟩) n (listF l) := fun k hk => by
  subst hn
  refine ⟨g, 0, rfl, hl, h.lt, ?_⟩
  rw [Nat.zero_add, h.at_ k, List.getElem?_toArray, List.getElem?_map, List.getElem?_eq_getElem hk]
  simp [listF, hk]
/-- A whole row loaded. -/
theorem range_of_row {W : World} {b : Nat} {t : TypeId} {n : Nat} {f : Nat → Value} (hr : W.rowIs b t n f) : W.rangeAt b 0 ((List.range n).map f) := fun j v hv => by
  rw [List.getElem?_map] at hv
  by_cases hj : j < n
  · rw [List.getElem?_range hj] at hv
    rw [Nat.zero_add, hr.cell hj]
    exact hv
  · rw [List.getElem?_eq_none (by simpa using hj)] at hv
    cases hv
theorem results_cell1 {fn : Func} {p : Tmp} {ty : TypeId} (h : fn.results = #[.cell p ty]) (tmps : Array Value) (P : Program) (w : World) :
    (results fn tmps).run P w = ((asAddr (tmps.getD p undef)).run P w).andThen fun a w₁ => (loadVar ty a).run P w₁ := by
  simp only [results, h]
  simp [Sem.run_bind, Result.andThen]

/-- What an array of 31 numbers holds. -/
def arrF (S : Nat → Int) (j : Nat) : Value := .int .i64 (S j)
def arr31 (S : Nat → Int) : Array Value := ((List.range 31).map (arrF S)).toArray
theorem arr31_size (S : Nat → Int) : (arr31 S).size = 31 := by simp [arr31]
theorem arr31_at (S : Nat → Int) (i : Nat) (h : i < 31) : (arr31 S)[i]? = some (arrF S i) := by
  rw [arr31, List.getElem?_toArray, List.getElem?_map, List.getElem?_range h]
  rfl
theorem arr31_one (S : Nat → Int) : (arr31 S).all (·.oneCell') = true := by
  rw [Array.all_eq_true_iff_forall_mem]
  intro v hv
  obtain ⟨i, _, rfl⟩ := List.mem_map.1 (List.mem_toArray.1 hv)
  rfl
theorem info31 : (Try.prog.info? 85).map (·.size) = some 31 := by kernel_rfl
theorem run_load31 {W : World} {b : Nat} {S : Nat → Int} (hr : W.rowIs b 85 31 (arrF S)) : (loadVar 85 ⟨b, 0, none⟩).run Try.prog W = .ok (.agg (arr31 S)) W :=
  run_loadVar_mid (P := Try.prog) W b 0 85 ((List.range 31).map (arrF S)) _ (range_of_row hr) Try.underlying85 rfl (by rw [info31]; simp)
theorem result31 {fn : Func} {p : Tmp} {b : Nat} {S : Nat → Int} {W : World} (h : fn.results = #[.cell p 85]) (tmps : Array Value) (ht : tmps.getD p undef = .pointer (some ⟨b, 0, none⟩)) (hr : W.rowIs b 85 31 (arrF S)) :
    (results fn tmps).run Try.prog W = .ok (.agg (arr31 S)) W := by
  rw [results_cell1 h, ht]
  simp only [asAddr, Sem.run_pure, Result.andThen, run_load31 hr]
theorem wpList_load31 {ops : Array Oper} {rest : List Oper} {op : Oper} {a : Act} {w : World} {Q : Exit → Act → World → Prop} (hgd : op.guard = none) (x : Operand) (ho : op.op = .load 85 x)
    (b : Nat) (S : Nat → Int) (hx : a.eval x = .pointer (some ⟨b, 0, none⟩)) (hr : w.rowIs b 85 31 (arrF S))
    (h : wpList Try.prog ops Q rest (a.put op.dst (.agg (arr31 S))) w) : wpList Try.prog ops Q (op :: rest) a w :=
  wpList_load_mid hgd 85 x ho b 0 hx ((List.range 31).map (arrF S)) _ (range_of_row hr) Try.underlying85 rfl (by rw [info31]; simp) h
theorem wpList_store31 {ops : Array Oper} {rest : List Oper} {op : Oper} {a : Act} {w : World} {Q : Exit → Act → World → Prop} (hgd : op.guard = none) (x y : Operand) (ho : op.op = .store 85 x y)
    (b : Nat) (f0 : Nat → Value) (S : Nat → Int) (hx : a.eval x = .pointer (some ⟨b, 0, none⟩)) (hy : a.eval y = .agg (arr31 S)) (hb : w.rowIs b 85 31 f0)
    (h : ∀ W, W.rowIs b 85 31 (arrF S) → Only b w W → wpList Try.prog ops Q rest (a.put op.dst undef) W) : wpList Try.prog ops Q (op :: rest) a w :=
  wpList_store_block hgd 85 x y ho b 85 31 f0 (arrF S) (arr31 S) hx hy hb (arr31_size S) info31 (arr31_one S) (arr31_at S) h
theorem rowIs_arr31 (w : World) (S : Nat → Int) (b : Nat) (hb : b = w.heap.size) : (w.alloc (.cells (arr31 S) 85)).rowIs b 85 31 (arrF S) := by
  subst hb
  have := World.rowIs_alloc w (arr31 S) 85 (arrF S) (fun i hi => arr31_at S i (by rwa [arr31_size] at hi))
  rwa [arr31_size] at this
theorem rowIs_setI {w : World} {b : Nat} {S : Nat → Int} (h : w.rowIs b 85 31 (arrF S)) (k : Nat) (x : Int) : (w.setCell ⟨b, k, none⟩ (.int .i64 x)).rowIs b 85 31 (arrF fun j => if j = k then x else S j) :=
  (h.set k (.int .i64 x)).congr fun j _ => by
    show (if j = k then Value.int .i64 x else arrF S j) = arrF (fun j => if j = k then x else S j) j
    unfold arrF
    by_cases e : j = k
    · simp only [if_pos e]
    · simp only [if_neg e]
end Go.Proofs.Ytcndeegfkgfnkaa
/- signsOf of the code. -/
namespace Go.Proofs.Ytcndeegfkgfnkaa
open Go.RowKit Go.Great
/-- The product of what stands at the first i taps, from place k on. -/
def tapP (T : Nat → Nat) (S : Nat → Int) (k : Nat) : Nat → Int
  | 0 => 1
  | i + 1 => tapP T S k i * S (k + T i)
/-- The array behind k further places. -/
def sgA (T : Nat → Nat) (m : Nat) : Nat → Nat → Int
  | 0, j => if j = 0 then -1 else if j < 5 then 1 else 0
  | k + 1, j => if j = k + 5 then tapP T (sgA T m k) k m else sgA T m k j
def setI (S : Nat → Int) (k : Nat) (x : Int) (j : Nat) : Int := if j = k then x else S j
def IsSign (x : Int) : Prop := x = 1 ∨ x = -1
theorem IsSign.mul {x y : Int} (h : IsSign x) (k : IsSign y) : IsSign (x * y) := by
  rcases h with rfl | rfl <;> rcases k with rfl | rfl <;> simp [IsSign]
theorem tapP_sign {T : Nat → Nat} {S : Nat → Int} {k m : Nat} (hT : ∀ i, i < m → T i < 5) (hS : ∀ j, j < k + 5 → IsSign (S j)) : ∀ i, i ≤ m → IsSign (tapP T S k i)
  | 0, _ => .inl rfl
  | i + 1, h => (tapP_sign hT hS i (by omega)).mul (hS _ (by have := hT i (by omega); omega))
theorem sgA_sign {T : Nat → Nat} {m : Nat} (hT : ∀ i, i < m → T i < 5) : ∀ k j, j < k + 5 → IsSign (sgA T m k j)
  | 0, j, h => by
    unfold sgA
    by_cases h0 : j = 0
    · rw [if_pos h0]; exact .inr rfl
    · rw [if_neg h0, if_pos (by omega)]; exact .inl rfl
  | k + 1, j, h => by
    unfold sgA
    by_cases h0 : j = k + 5
    · rw [if_pos h0]; exact tapP_sign hT (fun j hj => sgA_sign hT k j hj) m (Nat.le_refl _)
    · rw [if_neg h0]; exact sgA_sign hT k j (by omega)
/-- The taps of a block of its own. -/
theorem tapP_setI (T : Nat → Nat) (S : Nat → Int) (k : Nat) (x : Int) (m : Nat) (hT : ∀ i, i < m → T i < 5) : ∀ i, i ≤ m → tapP T (setI S (k + 5) x) k i = tapP T S k i
  | 0, _ => rfl
  | i + 1, h => by
    show tapP T (setI S (k + 5) x) k i * setI S (k + 5) x (k + T i) = _
    rw [tapP_setI T S k x m hT i (by omega), setI, if_neg (by have := hT i (by omega); omega)]
    rfl
/-- What the array is at last. -/
def sgF (T : Nat → Nat) (m : Nat) : Nat → Int := sgA T m 26
def s0F (j : Nat) : Int := if j = 0 then -1 else if j < 5 then 1 else 0
theorem sgA_zero (T : Nat → Nat) (m : Nat) : sgA T m 0 = s0F := by funext j; rfl
set_option maxHeartbeats 4000000 in
set_option maxRecDepth 100000 in
theorem signsOf_any (A : Option Addr) (m c : Nat) (T : Nat → Nat) (w : World) (hm : m ≤ 31) (hT : ∀ i, i < m → T i < 5) (hI : IntsAt w 0 A m (fun i => (T i : Int))) :
    Calls Try.prog 42 #[.slice A m c] w fun e w' => e = .returned (.agg (arr31 (sgF T m))) ∧ Below w.heap.size w w' := by
  have HI := hide hI
  have HT := hide hT
  clear hI hT
  go_enter Try.func42, Try.ntmps42
  go_upto_region 1 with (refine wpList_allocTo rfl _ rfl (.pointer (some ⟨w.heap.size, 0, none⟩)) (.cells (arr31 fun _ => 0) 85) (by kernel_rfl) ?_)
  obtain ⟨W1, hW1⟩ : ∃ q : World, q = w.alloc (.cells (arr31 fun _ => 0) 85) := ⟨_, rfl⟩
  rw [← hW1]
  have r1 : W1.rowIs w.heap.size 85 31 (arrF fun _ => 0) := by rw [hW1]; exact rowIs_arr31 w _ _ rfl
  have hB1 : Below w.heap.size w W1 := by rw [hW1]; (repeat (first | (with_reducible exact Below.refl _ _) | (with_reducible refine Go.below_drewN ?_ _) | (with_reducible refine Below.drew ?_) | (with_reducible refine Below.alloc ?_ (by first | exact Nat.le_refl _ | (simp; done) | (simp; omega) | omega) _) | (with_reducible refine Below.setCell ?_ (by first | exact Nat.le_refl _ | (simp; done) | (simp; omega) | omega) _)))
  have hs1 : W1.heap.size = w.heap.size + 1 := by rw [hW1]; simp
  clear hW1
  go_upto_region 2 with (first | (refine wpList_buildTo rfl 85 _ rfl (some 7) rfl (arr31 s0F) (by kernel_rfl) ?_) | (refine wpList_store31 rfl (.tmp 3) (.tmp 7) rfl W1.heap.size (arrF fun _ => 0) s0F rfl rfl (rowIs_arr31 W1 _ _ rfl) ?_; intro W2 r2 o2) | (refine wpList_allocTo rfl _ rfl (.pointer (some ⟨W1.heap.size, 0, none⟩)) (.cells (arr31 fun _ => 0) 85) (by kernel_rfl) ?_))
  have r12 : W2.rowIs w.heap.size 85 31 (arrF fun _ => 0) := o2.row (r1.alloc _) (by omega)
  have hB2 : Below w.heap.size w W2 := (hB1.alloc hB1.size _).trans (o2.to_below (by omega) (by simp; omega))
  obtain ⟨g, hg⟩ : ∃ g, g = W1.heap.size := ⟨_, rfl⟩
  rw [← hg] at r2
  rw [← hg]
  have hg0 : w.heap.size < g := by omega
  clear hg hs1 hB1 r1 o2
  go_wp2_with fail
  go_loopw [4] (fun i wr => ∃ n : Nat, 5 ≤ n ∧ n ≤ 31 ∧ i = .int .i64 (n : Int) ∧ wr.rowIs w.heap.size 85 31 (arrF fun _ => 0) ∧ wr.rowIs g 85 31 (arrF (sgA T m (n - 5))) ∧ Below w.heap.size w wr) (fun i _ => 31 - (Go.RowKit.intOf i).toNat)
  case atStart => exact ⟨5, by decide, by decide, rfl, r12, by rw [show 5 - 5 = 0 from rfl, sgA_zero]; exact r2, hB2⟩
  case round =>
    clear r12 r2 hB2
    obtain ⟨n, h5, h31, rfl, hZ, hR, hB⟩ := hrel
    obtain ⟨wA, rfl⟩ : ∃ x : World, x = wr := ⟨_, rfl⟩
    by_cases hlt : n < 31
    · have hltz : (n : Int) < 31 := by omega
      obtain ⟨d, hd⟩ : ∃ d, d = n - 5 := ⟨_, rfl⟩
      obtain ⟨S, hS⟩ : ∃ S, S = sgA T m d := ⟨_, rfl⟩
      have HD := hide hd
      have HS := hide hS
      rw [← hd, ← hS] at hR
      have hc0 := hR.cell hlt
      have hf0 := hR.frozen n
      clear hd hS
      go_wp2_with fail
      have r3 : (wA.setCell ⟨g, n, none⟩ (.int .i64 1)).rowIs g 85 31 (arrF (setI S n 1)) := rowIs_setI hR n 1
      have z3 := World.rowIs.setOther hZ (a := ⟨g, n, none⟩) (by show w.heap.size ≠ g; omega) (.int .i64 1)
      have hB3 := hB.setCell (p := ⟨g, n, none⟩) (by show w.heap.size ≤ g; omega) (.int .i64 1)
      go_loopw [16] (fun x wr => ∃ i : Nat, i ≤ m ∧ x = .int .i64 (i : Int) ∧ wr.rowIs w.heap.size 85 31 (arrF fun _ => 0) ∧ wr.rowIs g 85 31 (arrF (setI S n (tapP T S d i))) ∧ Below w.heap.size w wr) (fun x _ => m - (Go.RowKit.intOf x).toNat)
      case atStart => exact ⟨0, Nat.zero_le _, rfl, z3, r3, hB3⟩
      case round =>
        clear r3 z3 hB3 hc0 hf0 hZ hR hB
        obtain ⟨i, him, rfl, hZ, hR, hB⟩ := hrel
        obtain ⟨wB, rfl⟩ : ∃ x : World, x = wr := ⟨_, rfl⟩
        by_cases hli : i < m
        · have hliz : (i : Int) < (m : Int) := by omega
          have ht5 := HT.out i hli
          obtain ⟨b0, o0, rfl, hb0, hb1, hcell⟩ := (HI.out.below hB) i hli
          obtain ⟨t, ht⟩ : ∃ t, t = T i := ⟨_, rfl⟩
          replace hcell : wB.cell? ⟨b0, o0 + i, none⟩ = some (.int .i64 (T i : Int)) := hcell
          rw [← ht] at ht5 hcell
          have HTi := hide ht
          clear ht
          obtain ⟨p, hp⟩ : ∃ p, p = d + t := ⟨_, rfl⟩
          have hd5 := HD.out
          have hp31 : p < 31 := by omega
          have hpz : (p : Int) < 31 := by omega
          have hpn : p ≠ n := by omega
          have q1 : IntKind.i64.wrap ((n : Int) - 5) = (d : Int) := by rw [IntWalk.i64_in _ (by omega)]; omega
          have q2 : IntKind.i64.wrap ((d : Int) + (t : Int)) = (p : Int) := by rw [IntWalk.i64_in _ (by omega)]; omega
          have hsg : ∀ j, j < d + 5 → IsSign (S j) := by rw [HS.out]; exact sgA_sign HT.out d
          have hv := tapP_sign HT.out hsg i (by omega)
          have hx := hsg p (by omega)
          obtain ⟨v, hvv⟩ : ∃ v, v = tapP T S d i := ⟨_, rfl⟩
          obtain ⟨x, hxx⟩ : ∃ x, x = S p := ⟨_, rfl⟩
          rw [← hvv] at hv hR
          rw [← hxx] at hx
          have q3 : IntKind.i64.wrap (v * x) = v * x := IntWalk.i64_in _ (by rcases hv with rfl | rfl <;> rcases hx with rfl | rfl <;> decide)
          have hcn : wB.cell? ⟨g, n, none⟩ = some (.int .i64 v) := by rw [hR.cell hlt]; simp [arrF, setI]
          have hcp : wB.cell? ⟨g, p, none⟩ = some (.int .i64 x) := by rw [hR.cell hp31, hxx]; simp [arrF, setI, hpn]
          have hfn := hR.frozen n
          have HV := hide hvv
          have HX := hide hxx
          have HP := hide hp
          have HR := hide hR
          clear hvv hxx hp hR hv hx hsg hd5 hpn
          go_wp2_with fail
          go_still_tail 11, (by kernel_rfl)
          repeat still_step
          try refine wpStill_nil ?_
          go_wp2_with fail
          go_roundw
          case rel =>
            refine ⟨i + 1, by omega, by go_num, hZ.drew.setOther (by show w.heap.size ≠ g; omega) _, (rowIs_setI HR.out.drew n (v * x)).congr fun j _ => ?_, hB.drew.setCell (by show w.heap.size ≤ g; omega) _⟩
            show arrF (setI (setI S n v) n (v * x)) j = arrF (setI S n (tapP T S d i * S (d + T i))) j
            rw [← HV.out, ← HTi.out, ← HP.out, ← HX.out]
            unfold arrF setI
            by_cases e : j = n
            · simp only [if_pos e]
            · simp only [if_neg e]
          case measure => simp [Go.RowKit.intOf]; omega
        · obtain rfl : i = m := by omega
          go_wp2_with fail
          go_roundw
          case rel =>
            refine ⟨n + 1, by omega, by omega, by go_num, hZ, hR.congr fun j _ => ?_, hB⟩
            have hd5 := HD.out
            rw [show n + 1 - 5 = d + 1 by omega]
            show arrF (setI S n (tapP T S d i)) j = arrF (fun j => if j = d + 5 then tapP T (sgA T i d) d i else sgA T i d j) j
            rw [← HS.out, show n = d + 5 by omega]
            rfl
          case measure => simp [Go.RowKit.intOf]; omega
    · obtain rfl : n = 31 := by omega
      have HZ := hide hZ
      have HR := hide hR
      go_upto_region 11 with fail
      go_wp2_with (first | (refine wpList_load31 rfl (.tmp 3) rfl g (sgA T m 26) rfl HR.out ?_) | (refine wpList_store31 rfl (.tmp 2) (.tmp 32) rfl w.heap.size (arrF fun _ => 0) (sgA T m 26) rfl rfl HZ.out ?_; intro W2 r2 o2))
      refine bodyPost_ret (v := .agg (arr31 (sgA T m 26))) (result31 rfl _ rfl r2) rfl ⟨rfl, hB.trans (o2.to_below (Nat.le_refl _) hB.size)⟩
end Go.Proofs.Ytcndeegfkgfnkaa
/- firstHalf of the code. -/
namespace Go.Proofs.Ytcndeegfkgfnkaa
open Go.RowKit Go.Great
theorem make31 (W : World) : (Instr.makeSlice 22 (.int .i64 31) (.int .i64 31)).run Try.prog W = .ok (.slice (some ⟨W.heap.size, 0, none⟩) 31 31) (W.alloc (.cells (madeCells #[.int .i64 0] 31) 3)) := by
  obtain ⟨i0, hi, hz0, hz1, hz2⟩ := info_parts intInfo
  exact run_make_row (P := Try.prog) 22 3 i0 (.int .i64 0) Try.underlying22 hi hz0 hz1 rfl .i64 .i64 31 (by rw [hz2]; omega) (by omega) W
set_option maxHeartbeats 4000000 in
set_option maxRecDepth 100000 in
theorem firstHalf_cap (S : Nat → Int) (a b c : Nat) (w : World) (ha : a ≤ 100000) :
    Calls Try.prog 45 #[.agg (arr31 S), .agg #[.int .i64 (a : Int), .int .i64 (b : Int), .int .i64 (c : Int)]] w fun e w' => ∃ A, e = .returned (.slice A 31 31) ∧ IntsAt w' w.heap.size A 31 (fun n => S ((n + a) % 31)) ∧ Below w.heap.size w w' := by
  have hmk := fun W => make31 W
  go_enter Try.func45, Try.ntmps45
  go_wp2_with (refine wpList_boxTo rfl 85 (.tmp 0) rfl _ rfl w.heap.size rfl (arr31 S) rfl ?_)
  clear hmk
  obtain ⟨W0, hW0⟩ : ∃ q : World, q = (w.alloc (.cells (arr31 S) 85)).alloc (.cells #[.int .i64 (a : Int), .int .i64 (b : Int), .int .i64 (c : Int)] 87) := ⟨_, rfl⟩
  rw [← hW0]
  have hs0 : W0.heap.size = w.heap.size + 1 + 1 := by rw [hW0]; simp
  have br0 : W0.rowIs w.heap.size 85 31 (arrF S) := by rw [hW0]; exact (rowIs_arr31 w S _ rfl).alloc _
  have bb0 : Box W0 (w.heap.size + 1) 87 #[.int .i64 (a : Int), .int .i64 (b : Int), .int .i64 (c : Int)] := by rw [hW0]; exact Box.made (by simp)
  have hB0 : Below w.heap.size w W0 := by rw [hW0]; (repeat (first | (with_reducible exact Below.refl _ _) | (with_reducible refine Go.below_drewN ?_ _) | (with_reducible refine Below.drew ?_) | (with_reducible refine Below.alloc ?_ (by first | exact Nat.le_refl _ | (simp; done) | (simp; omega) | omega) _) | (with_reducible refine Below.setCell ?_ (by first | exact Nat.le_refl _ | (simp; done) | (simp; omega) | omega) _)))
  clear hW0
  go_loopw [10] (fun i wr => ∃ k : Nat, k ≤ 31 ∧ i = .int .i64 (k : Int) ∧ wr.rowIs w.heap.size 85 31 (arrF S) ∧ Box wr (w.heap.size + 1) 87 #[.int .i64 (a : Int), .int .i64 (b : Int), .int .i64 (c : Int)] ∧ wr.rowIs (w.heap.size + 1 + 1) 3 31 (fun j => .int .i64 (if j < k then S ((j + a) % 31) else 0)) ∧ Below w.heap.size w wr) (fun i _ => 31 - (Go.RowKit.intOf i).toNat)
  case atStart =>
    refine ⟨0, Nat.zero_le _, rfl, br0.alloc _, bb0.alloc _, ?_, hB0.alloc hB0.size _⟩
    have h := World.rowIs_made W0 (.int .i64 0) 31 3
    rw [hs0] at h
    exact h.congr (fun _ _ => by simp)
  case round =>
    clear br0 bb0 hB0 hs0
    obtain ⟨k, hk, rfl, hS, hb, hR, hB⟩ := hrel
    obtain ⟨wA, rfl⟩ : ∃ x : World, x = wr := ⟨_, rfl⟩
    by_cases hlt : k < 31
    · have hltz : (k : Int) < 31 := by omega
      obtain ⟨p, hp⟩ : ∃ p, p = (k + a) % 31 := ⟨_, rfl⟩
      have hp31 : p < 31 := by omega
      have hpz : (p : Int) < 31 := by omega
      have y0 := hb.at_ 0
      simp only [List.getElem?_toArray] at y0
      have q1 : IntKind.i64.wrap ((k : Int) + (a : Int)) = (k : Int) + (a : Int) := IntWalk.i64_in _ (by omega)
      have q2 : ((k : Int) + (a : Int)).tmod 31 = (p : Int) := by rw [Int.tmod_eq_emod_of_nonneg (by omega)]; omega
      have hc : wA.cell? ⟨w.heap.size, p, none⟩ = some (.int .i64 (S p)) := hS.cell hp31
      have hc2 := hR.cell hlt
      have hf2 := hR.frozen k
      have HP := hide hp
      clear hp
      go_wp2_with fail
      go_roundw
      case rel =>
        exact ⟨k + 1, by omega, by go_num, hS.setOther (by show w.heap.size ≠ w.heap.size + 1 + 1; omega) _, hb.other (by show w.heap.size + 1 ≠ w.heap.size + 1 + 1; omega) _, (hR.set k _).congr (fun x _ => by
          by_cases e : x = k
          · subst e
            rw [if_pos rfl, if_pos (Nat.lt_succ_self _), HP.out]
          · rw [if_neg e]
            by_cases e2 : x < k
            · rw [if_pos e2, if_pos (by omega)]
            · rw [if_neg e2, if_neg (by omega)]), hB.setCell (by show w.heap.size ≤ w.heap.size + 1 + 1; omega) _⟩
      case measure => simp [Go.RowKit.intOf]; omega
    · obtain rfl : k = 31 := by omega
      go_wp2_with fail
      go_ret
      exact ⟨_, rfl, IntsAt.of_row (hR.congr fun j hj => by rw [if_pos hj]) (by omega), hB⟩
theorem firstHalf_any (S : Nat → Int) (a b c : Nat) (w : World) (ha : a ≤ 100000) :
    Calls Try.prog 45 #[.agg (arr31 S), .agg #[.int .i64 (a : Int), .int .i64 (b : Int), .int .i64 (c : Int)]] w fun e w' => ∃ v, e = .returned v ∧ GaveInts w 31 (fun n => S ((n + a) % 31)) v w' :=
  (firstHalf_cap S a b c w ha).mono fun _ _ ⟨A, h, h1, h2⟩ => ⟨_, h, A, 31, rfl, Nat.le_refl _, h1, h2⟩
end Go.Proofs.Ytcndeegfkgfnkaa
/- secondHalf of the code. -/
namespace Go.Proofs.Ytcndeegfkgfnkaa
open Go.RowKit Go.Great
set_option maxHeartbeats 4000000 in
set_option maxRecDepth 100000 in
theorem secondHalf_cap (S V : Nat → Int) (a b c : Nat) (w : World) (hb : b ≤ 100000) (hc : c ≤ 100000) (hSV : ∀ i j, i < 31 → j < 31 → -1000000 ≤ S i * V j ∧ S i * V j ≤ 1000000) :
    Calls Try.prog 46 #[.agg (arr31 S), .agg (arr31 V), .agg #[.int .i64 (a : Int), .int .i64 (b : Int), .int .i64 (c : Int)]] w fun e w' => ∃ A, e = .returned (.slice A 31 31) ∧ IntsAt w' w.heap.size A 31 (fun n => S ((n + b) % 31) * V ((n + c) % 31)) ∧ Below w.heap.size w w' := by
  have hmk := fun W => make31 W
  have HSV := hide hSV
  clear hSV
  go_enter Try.func46, Try.ntmps46
  go_wp2_with (first | (refine wpList_boxTo rfl 85 (.tmp 0) rfl _ rfl w.heap.size rfl (arr31 S) rfl ?_) | (refine wpList_boxTo rfl 85 (.tmp 1) rfl _ rfl (w.alloc _).heap.size rfl (arr31 V) rfl ?_))
  clear hmk
  obtain ⟨W0, hW0⟩ : ∃ q : World, q = ((w.alloc (.cells (arr31 S) 85)).alloc (.cells (arr31 V) 85)).alloc (.cells #[.int .i64 (a : Int), .int .i64 (b : Int), .int .i64 (c : Int)] 87) := ⟨_, rfl⟩
  rw [← hW0]
  have hs0 : W0.heap.size = w.heap.size + 1 + 1 + 1 := by rw [hW0]; simp
  have br0 : W0.rowIs w.heap.size 85 31 (arrF S) := by rw [hW0]; exact ((rowIs_arr31 w S _ rfl).alloc _).alloc _
  have bv0 : W0.rowIs (w.heap.size + 1) 85 31 (arrF V) := by rw [hW0]; exact (rowIs_arr31 _ V _ (by simp)).alloc _
  have bb0 : Box W0 (w.heap.size + 1 + 1) 87 #[.int .i64 (a : Int), .int .i64 (b : Int), .int .i64 (c : Int)] := by rw [hW0]; exact Box.made (by simp)
  have hB0 : Below w.heap.size w W0 := by rw [hW0]; (repeat (first | (with_reducible exact Below.refl _ _) | (with_reducible refine Go.below_drewN ?_ _) | (with_reducible refine Below.drew ?_) | (with_reducible refine Below.alloc ?_ (by first | exact Nat.le_refl _ | (simp; done) | (simp; omega) | omega) _) | (with_reducible refine Below.setCell ?_ (by first | exact Nat.le_refl _ | (simp; done) | (simp; omega) | omega) _)))
  clear hW0
  go_loopw [12] (fun i wr => ∃ k : Nat, k ≤ 31 ∧ i = .int .i64 (k : Int) ∧ wr.rowIs w.heap.size 85 31 (arrF S) ∧ wr.rowIs (w.heap.size + 1) 85 31 (arrF V) ∧ Box wr (w.heap.size + 1 + 1) 87 #[.int .i64 (a : Int), .int .i64 (b : Int), .int .i64 (c : Int)] ∧ wr.rowIs (w.heap.size + 1 + 1 + 1) 3 31 (fun j => .int .i64 (if j < k then S ((j + b) % 31) * V ((j + c) % 31) else 0)) ∧ Below w.heap.size w wr) (fun i _ => 31 - (Go.RowKit.intOf i).toNat)
  case atStart =>
    refine ⟨0, Nat.zero_le _, rfl, br0.alloc _, bv0.alloc _, bb0.alloc _, ?_, hB0.alloc hB0.size _⟩
    have h := World.rowIs_made W0 (.int .i64 0) 31 3
    rw [hs0] at h
    exact h.congr (fun _ _ => by simp)
  case round =>
    clear br0 bv0 bb0 hB0 hs0
    obtain ⟨k, hk, rfl, hS, hV, hbx, hR, hB⟩ := hrel
    obtain ⟨wA, rfl⟩ : ∃ x : World, x = wr := ⟨_, rfl⟩
    by_cases hlt : k < 31
    · have hltz : (k : Int) < 31 := by omega
      obtain ⟨p, hp⟩ : ∃ p, p = (k + b) % 31 := ⟨_, rfl⟩
      obtain ⟨q, hq⟩ : ∃ q, q = (k + c) % 31 := ⟨_, rfl⟩
      have hp31 : p < 31 := by omega
      have hq31 : q < 31 := by omega
      have hpz : (p : Int) < 31 := by omega
      have hqz : (q : Int) < 31 := by omega
      have y1 := hbx.at_ 1
      have y2 := hbx.at_ 2
      simp only [List.getElem?_toArray] at y1 y2
      have q1 : IntKind.i64.wrap ((k : Int) + (b : Int)) = (k : Int) + (b : Int) := IntWalk.i64_in _ (by omega)
      have q2 : ((k : Int) + (b : Int)).tmod 31 = (p : Int) := by rw [Int.tmod_eq_emod_of_nonneg (by omega)]; omega
      have q3 : IntKind.i64.wrap ((k : Int) + (c : Int)) = (k : Int) + (c : Int) := IntWalk.i64_in _ (by omega)
      have q4 : ((k : Int) + (c : Int)).tmod 31 = (q : Int) := by rw [Int.tmod_eq_emod_of_nonneg (by omega)]; omega
      have q5 : IntKind.i64.wrap (S p * V q) = S p * V q := IntWalk.i64_in _ (by have := HSV.out p q hp31 hq31; omega)
      have hcS : wA.cell? ⟨w.heap.size, p, none⟩ = some (.int .i64 (S p)) := hS.cell hp31
      have hcV : wA.cell? ⟨w.heap.size + 1, q, none⟩ = some (.int .i64 (V q)) := hV.cell hq31
      have hc2 := hR.cell hlt
      have hf2 := hR.frozen k
      have HP := hide hp
      have HQ := hide hq
      clear hp hq
      go_wp2_with fail
      go_still_tail 18, (by kernel_rfl)
      repeat still_step
      try refine wpStill_nil ?_
      go_wp2_with fail
      go_roundw
      case rel =>
        exact ⟨k + 1, by omega, by go_num, hS.drew.setOther (by show w.heap.size ≠ w.heap.size + 1 + 1 + 1; omega) _, hV.drew.setOther (by show w.heap.size + 1 ≠ w.heap.size + 1 + 1 + 1; omega) _, hbx.drew.other (by show w.heap.size + 1 + 1 ≠ w.heap.size + 1 + 1 + 1; omega) _, (hR.drew.set k _).congr (fun x _ => by
          by_cases e : x = k
          · subst e
            rw [if_pos rfl, if_pos (Nat.lt_succ_self _), HP.out, HQ.out]
          · rw [if_neg e]
            by_cases e2 : x < k
            · rw [if_pos e2, if_pos (by omega)]
            · rw [if_neg e2, if_neg (by omega)]), hB.drew.setCell (by show w.heap.size ≤ w.heap.size + 1 + 1 + 1; omega) _⟩
      case measure => simp [Go.RowKit.intOf]; omega
    · obtain rfl : k = 31 := by omega
      go_wp2_with fail
      go_ret
      exact ⟨_, rfl, IntsAt.of_row (hR.congr fun j hj => by rw [if_pos hj]) (by omega), hB⟩
theorem secondHalf_any (S V : Nat → Int) (a b c : Nat) (w : World) (hb : b ≤ 100000) (hc : c ≤ 100000) (hSV : ∀ i j, i < 31 → j < 31 → -1000000 ≤ S i * V j ∧ S i * V j ≤ 1000000) :
    Calls Try.prog 46 #[.agg (arr31 S), .agg (arr31 V), .agg #[.int .i64 (a : Int), .int .i64 (b : Int), .int .i64 (c : Int)]] w fun e w' => ∃ v, e = .returned v ∧ GaveInts w 31 (fun n => S ((n + b) % 31) * V ((n + c) % 31)) v w' :=
  (secondHalf_cap S V a b c w hb hc hSV).mono fun _ _ ⟨A, h, h1, h2⟩ => ⟨_, h, A, 31, rfl, Nat.le_refl _, h1, h2⟩
end Go.Proofs.Ytcndeegfkgfnkaa
/- shiftsOf of the code. -/
namespace Go.Proofs.Ytcndeegfkgfnkaa
open Go.RowKit
set_option maxHeartbeats 4000000 in
theorem shiftsOf_any (i : Nat) (w : World) (hi : i < 100000) :
    Calls Try.prog 43 #[.int .i64 (i : Int)] w fun r w' => r = .returned (.agg #[.int .i64 ((10 * (i % 3) : Nat) : Int), .int .i64 ((i / 3 % 31 : Nat) : Int), .int .i64 ((i / 3 / 31 : Nat) : Int)]) ∧ Below w.heap.size w w' := by
  rw [show ((10 * (i % 3) : Nat) : Int) = 10 * ((i : Int) % 3) by omega, show ((i / 3 % 31 : Nat) : Int) = (i : Int) / 3 % 31 by omega, show ((i / 3 / 31 : Nat) : Int) = (i : Int) / 3 / 31 by omega]
  go_enter Try.func43, Try.ntmps43
  go_wp2_with fail
  obtain ⟨W, hW⟩ : ∃ y : World, y = w.alloc (.cells #[.int .i64 (10 * ((i : Int) % 3)), .int .i64 ((i : Int) / 3 % 31), .int .i64 ((i : Int) / 3 / 31)] 87) := ⟨_, rfl⟩
  rw [← hW]
  have bx : Box W w.heap.size 87 #[.int .i64 (10 * ((i : Int) % 3)), .int .i64 ((i : Int) / 3 % 31), .int .i64 ((i : Int) / 3 / 31)] := by rw [hW]; exact Box.made rfl
  have hB : Below w.heap.size w W := by rw [hW]; (repeat (first | (with_reducible exact Below.refl _ _) | (with_reducible refine Go.below_drewN ?_ _) | (with_reducible refine Below.drew ?_) | (with_reducible refine Below.alloc ?_ (by first | exact Nat.le_refl _ | (simp; done) | (simp; omega) | omega) _) | (with_reducible refine Below.setCell ?_ (by first | exact Nat.le_refl _ | (simp; done) | (simp; omega) | omega) _)))
  have y0 : W.cell? ⟨w.heap.size, 0, none⟩ = some (.int .i64 (10 * ((i : Int) % 3))) := bx.at_ 0
  have y1 : W.cell? ⟨w.heap.size, 1, none⟩ = some (.int .i64 ((i : Int) / 3 % 31)) := bx.at_ 1
  have y2 : W.cell? ⟨w.heap.size, 2, none⟩ = some (.int .i64 ((i : Int) / 3 / 31)) := bx.at_ 2
  refine bodyPost_ret (v := .agg #[.int .i64 (10 * ((i : Int) % 3)), .int .i64 ((i : Int) / 3 % 31), .int .i64 ((i : Int) / 3 / 31)]) ?_ rfl ⟨rfl, hB⟩
  simp [results, Try.results43, go_sem, y0, y1, y2]
end Go.Proofs.Ytcndeegfkgfnkaa
/- exploring: Grow, Concat, CopyInts -/
namespace Go.Proofs.Ytcndeegfkgfnkaa
open Go.RowKit Go.Lib
set_option maxHeartbeats 1000000 in
theorem copyInts_any (A : Option Addr) (n c : Nat) (F : Nat → Int) (w : World) (hn : n ≤ 100000000) (hI : IntsAt w 0 A n F) :
    Calls Try.prog 10 #[.slice A n c] w fun e w' => ∃ v, e = .returned v ∧ GaveInts w n F v w' := by
  go_enter Try.func10, Try.ntmps10
  go_wp2_with (at_builtin; refine wpList_append_ints _ rfl (.tmp 3) (.tmp 4) rfl w.heap.size 0 (.slice (some ⟨w.heap.size, 0, none⟩) 0 0) 0 F rfl (World.ownsRow_made w #[] 0 (Nat.le_refl _) (by unfold maxLen; omega) rfl) A n c F rfl (hI.alloc _) (by omega) (by simp) ?_; intro v' w' h1 hb1)
  go_ret
  have hB : Below w.heap.size w w' := ((Below.refl _ _).alloc (Nat.le_refl _) _).trans hb1
  rw [Nat.zero_add] at h1
  exact ⟨_, rfl, (h1.congr fun j _ => by simp [catF]).gave hB⟩
theorem wpList_grow_ints {ops : Array Oper} {rest : List Oper} {o : Oper} {a : Act} {Q : Exit → Act → World → Prop} (w : World) (hgd : o.guard = none) (s x : Operand)
    (ho : o.op = .call { callee := .builtin .append, args := #[s, x], argTypes := #[22, 3] })
    (n : Nat) (h0 : 0 < n) (hn : n ≤ 1000000000) (hs : a.eval s = .slice none 0 0) (hx : a.eval x = .int .i64 (n : Int))
    (h : ∀ cap w', n ≤ cap → cap ≤ maxLen → OwnInts w' w.heap.size (.slice (some ⟨w.heap.size, 0, none⟩) 0 cap) 0 (fun _ => 0) → Below w.heap.size w w' →
      wpList Try.prog ops Q rest (a.put o.dst (.slice (some ⟨w.heap.size, 0, none⟩) n cap)) w') : wpList Try.prog ops Q (o :: rest) a w := by
  obtain ⟨i0, hi, hz0, hz1, hz2⟩ := info_parts intInfo
  have hrun := fun ty => run_append_nil_zeros (P := Try.prog) w 22 3 ty 3 i0 (.int .i64 0) .i64 .i64 Try.underlying22 Try.underlying3 hi hz0 n h0 (by omega) (by omega) (by rw [hz2]; omega)
  refine wpList_plain hgd fun K hK => ?_
  unfold Oper.wp execOp
  simp only [ho, resolve, invoke, builtin, Sem.run_bind, Sem.run_pure, Result.andThen_ok, List.map_toArray, List.map_cons, List.map_nil, hs, hx, hrun]
  have hge := grownCap_ge w n 0 3
  have hle := grownCap_le_maxLen w n 0 3 (by unfold maxLen; omega)
  refine hK _ _ (h _ _ hge hle ?_ ?_)
  · exact World.ownsRow_made w.drew _ (grownCap w n 0 3) (Nat.le_refl _) hle (by
      rw [Array.size_append, size_zeroCells, size_zeroCells]
      show n * 1 + (grownCap w n 0 3 - n) * 1 = _
      omega)
  · exact (Below.refl _ _).drew.alloc (Nat.le_refl _) _

set_option maxHeartbeats 1000000 in
theorem grow_any (n : Nat) (w : World) (hn : n ≤ 100000000) :
    Calls Try.prog 61 #[.slice none 0 0, .int .i64 (n : Int)] w fun e w' => ∃ v, e = .returned v ∧ OwnInts w' w.heap.size v 0 (fun _ => 0) ∧ Below w.heap.size w w' := by
  by_cases h0 : n = 0
  · subst h0
    go_enter Try.func61, Try.ntmps61
    go_wp2_with fail
    go_ret
    exact ⟨_, rfl, OwnInts.nil_ _ _ _, by (repeat (first | (with_reducible exact Below.refl _ _) | (with_reducible refine Go.below_drewN ?_ _) | (with_reducible refine Below.drew ?_) | (with_reducible refine Below.alloc ?_ (by first | exact Nat.le_refl _ | (simp; done) | (simp; omega) | omega) _) | (with_reducible refine Below.setCell ?_ (by first | exact Nat.le_refl _ | (simp; done) | (simp; omega) | omega) _)))⟩
  · have hn0 : 0 < n := by omega
    have hn1 : (0 : Int) < (n : Int) := by omega
    clear h0
    go_enter Try.func61, Try.ntmps61
    go_wp2_with (at_builtin; refine wpList_grow_ints _ rfl (.tmp 20) (.tmp 21) rfl n hn0 (by omega) rfl rfl ?_; intro cap w' hc1 hc2 hown hb)
    go_ret
    exact ⟨_, rfl, hown, hb⟩

end Go.Proofs.Ytcndeegfkgfnkaa
